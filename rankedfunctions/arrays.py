"""Arrays: a shape and data, and the cells that they fall into."""

from rankedfunctions.refusals import NoArray, NoShape

MOST_EXTENTS = 5
MOST_DATA = 1024
FILL = 0


class Array:
    """A shape and its data. Arrays share these lists with one another, so none is changed once it stands in one."""

    def __init__(self, shape, data):
        self.shape = shape
        self.data = data


def product(extents):
    whole = 1
    for extent in extents:
        whole = whole * extent
    return whole


def is_shape(extents):
    # The count comes first: a product of thousands of great extents would be of no use.
    if len(extents) > MOST_EXTENTS or min(extents, default=0) < 0:
        return False
    return product([extent for extent in extents if extent != 0]) <= MOST_DATA


def sized(extents):
    """The extents, if they are a shape that an array can be made with."""
    if not is_shape(extents):
        raise NoShape()
    return extents


def handed_array(shape, data):
    """The array that was handed over as these two lists."""
    if not is_shape(shape) or len(data) != product(shape):
        raise NoArray()
    return Array(list(shape), list(data))


def scalar(number):
    return Array([], [number])


def vector(numbers):
    return Array([len(numbers)], numbers)


def filled(shape, number):
    """The array that has the number for each element."""
    return Array(shape, [number] * product(shape))


def as_vector(array):
    if array.shape == []:
        return vector(array.data)
    return array


def pieces_of(data, count, size):
    """The data's pieces of that size: the count is told beside it, since pieces may have no elements."""
    return [data[number * size:(number + 1) * size] for number in range(count)]


def joined(pieces):
    data = []
    for piece in pieces:
        data.extend(piece)
    return data


def cell_pieces(array):
    """The data of each cell of an array that is no scalar."""
    return pieces_of(array.data, array.shape[0], product(array.shape[1:]))


def array_of_pieces(cell_shape, pieces):
    """The array whose cells have these data."""
    return Array([len(pieces)] + cell_shape, joined(pieces))


def frame_of(array, rank):
    """The frame of the array's cells of that rank, which is at most its own."""
    return array.shape[:len(array.shape) - rank]


def cell_shape_of(array, rank):
    return array.shape[len(array.shape) - rank:]


def cells_of(array, rank):
    """The array's cells of that rank, which is at most its own."""
    shape = cell_shape_of(array, rank)
    pieces = pieces_of(array.data, product(frame_of(array, rank)), product(shape))
    return [Array(shape, piece) for piece in pieces]
