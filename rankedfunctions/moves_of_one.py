"""The functions of one operand that move elements."""

from rankedfunctions.arrays import FILL, Array, array_of_pieces, cell_pieces, filled, product, scalar, sized, vector
from rankedfunctions.counts import check_counts, repeated
from rankedfunctions.refusals import WrongRank


def extents_of(y):
    return vector(y.shape)


def count_of(y):
    if y.shape == []:
        return scalar(1)
    return scalar(y.shape[0])


def ravel(y):
    return vector(y.data)


def iota(y):
    if len(y.shape) > 1:
        raise WrongRank()
    check_counts(y.data)
    shape = sized(y.data)
    return Array(shape, list(range(product(shape))))


def flip(y):
    """Extent by extent of the answer: where in y the elements stand whose indexes begin with those so far."""
    shape = list(reversed(y.shape))
    places = [0]
    step = 1
    for extent in shape:
        further = []
        for place in places:
            further.extend([place + position * step for position in range(extent)])
        places = further
        step = step * extent
    return Array(shape, [y.data[place] for place in places])


def turn(y):
    if y.shape == []:
        return y
    return array_of_pieces(y.shape[1:], list(reversed(cell_pieces(y))))


def grade(y):
    if y.shape == []:
        raise WrongRank()
    pieces = cell_pieces(y)
    return vector(sorted(range(len(pieces)), key=lambda number: pieces[number]))


def positions_of(y):
    if len(y.shape) != 1:
        raise WrongRank()
    check_counts(y.data)
    sized([sum(y.data)])
    return vector(repeated(list(range(len(y.data))), y.data))


def first_of(y):
    if y.shape == []:
        return y
    if y.shape[0] == 0:
        return filled(y.shape[1:], FILL)
    return Array(y.shape[1:], cell_pieces(y)[0])


MOVES = {
    "Shape": extents_of, "Count": count_of, "Ravel": ravel, "Iota": iota, "Flip": flip, "Turn": turn,
    "Grade": grade, "Where": positions_of, "First": first_of,
}


def move_of_one(name, y):
    move = MOVES[name]
    return move(y)
