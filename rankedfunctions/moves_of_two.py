"""The functions of two operands that move elements."""

from rankedfunctions.arrays import FILL, Array, array_of_pieces, as_vector, cell_pieces, cell_shape_of, cells_of
from rankedfunctions.arrays import filled, frame_of, joined, product, scalar, sized
from rankedfunctions.counts import check_counts, repeated
from rankedfunctions.refusals import NoSuchCell, WrongRank, WrongShape


def one_number(x):
    """The number of a left operand that must be one number."""
    if len(x.shape) > 1:
        raise WrongRank()
    if len(x.data) != 1:
        raise WrongShape()
    return x.data[0]


def reshape(x, y):
    if len(x.shape) > 1:
        raise WrongRank()
    check_counts(x.data)
    shape = sized(x.data)
    if len(y.data) == 0:
        return filled(shape, FILL)
    return Array(shape, [y.data[place % len(y.data)] for place in range(product(shape))])


def take(x, y):
    number = one_number(x)
    whole = as_vector(y)
    wanted = abs(number)
    shape = sized([wanted] + whole.shape[1:])
    there = min(wanted, whole.shape[0])
    size = product(whole.shape[1:])
    fills = [FILL] * ((wanted - there) * size)
    if number < 0:
        return Array(shape, fills + whole.data[len(whole.data) - there * size:])
    return Array(shape, whole.data[:there * size] + fills)


def drop(x, y):
    number = one_number(x)
    whole = as_vector(y)
    staying = max(whole.shape[0] - abs(number), 0)
    shape = [staying] + whole.shape[1:]
    if number < 0:
        return Array(shape, whole.data[:product(shape)])
    return Array(shape, whole.data[len(whole.data) - product(shape):])


def rotate(x, y):
    number = one_number(x)
    if y.shape == [] or y.shape[0] == 0:
        return y
    begin = (number % y.shape[0]) * product(y.shape[1:])
    return Array(y.shape, y.data[begin:] + y.data[:begin])


def beside(array, other):
    """The array as it counts in a join with the other one: two scalars count as vectors so, too."""
    if array.shape == []:
        return filled([1] + other.shape[1:], array.data[0])
    if len(array.shape) == len(other.shape) - 1:
        return Array([1] + array.shape, array.data)
    return array


def join(x, y):
    left = beside(x, y)
    right = beside(y, x)
    if left.shape[1:] != right.shape[1:]:
        raise WrongShape()
    shape = sized([left.shape[0] + right.shape[0]] + left.shape[1:])
    return Array(shape, left.data + right.data)


def pick(x, y):
    if y.shape == []:
        raise WrongRank()
    for number in x.data:
        if not 0 <= number < y.shape[0]:
            raise NoSuchCell()
    shape = sized(x.shape + y.shape[1:])
    pieces = cell_pieces(y)
    return Array(shape, joined([pieces[number] for number in x.data]))


def find(x, y):
    if x.shape == []:
        raise WrongRank()
    rank = len(x.shape) - 1
    if len(y.shape) < rank or cell_shape_of(y, rank) != x.shape[1:]:
        raise WrongShape()
    numbers = {}
    for number, piece in enumerate(cell_pieces(x)):
        numbers.setdefault(tuple(piece), number)
    found = [numbers.get(tuple(cell.data), x.shape[0]) for cell in cells_of(y, rank)]
    return Array(frame_of(y, rank), found)


def same(x, y):
    if x.shape == y.shape and x.data == y.data:
        return scalar(1)
    return scalar(0)


def keep(x, y):
    if len(x.shape) > 1:
        raise WrongRank()
    whole = as_vector(y)
    counts = x.data
    if x.shape == []:
        counts = x.data * whole.shape[0]
    if len(counts) != whole.shape[0]:
        raise WrongShape()
    check_counts(x.data)
    sized([sum(counts)] + whole.shape[1:])
    return array_of_pieces(whole.shape[1:], repeated(cell_pieces(whole), counts))


MOVES = {
    "Reshape": reshape, "Take": take, "Drop": drop, "Rotate": rotate, "Join": join, "Pick": pick, "Find": find,
    "Same": same, "Keep": keep,
}


def move_of_two(name, x, y):
    move = MOVES[name]
    return move(x, y)
