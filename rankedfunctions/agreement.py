"""Agreement: two shapes of which one is the beginning of the other, and the pairs that they make."""

from rankedfunctions.arrays import product
from rankedfunctions.counts import repeated
from rankedfunctions.refusals import WrongShape


def longer_shape(left, right):
    """The longer of two shapes, which must agree."""
    shared = min(len(left), len(right))
    if left[:shared] != right[:shared]:
        raise WrongShape()
    if len(left) > len(right):
        return left
    return right


def stretched(things, extents):
    """Each of the things once for every index that these further extents have."""
    if extents == []:
        return things
    return repeated(things, [product(extents)] * len(things))


def pairs_of(left_shape, left_things, right_shape, right_things):
    """A pair for each thing of the longer shape, with that thing of the other whose index begins its index."""
    left = stretched(left_things, right_shape[len(left_shape):])
    right = stretched(right_things, left_shape[len(right_shape):])
    return list(zip(left, right))
