"""two: the functions of two operands that move elements."""

import unittest

from calls import BIGGEST, DOMAIN, INDEX, RANK, SHAPE, SIZE, TwoTest, counted, empty, scalar, vector

FIVE = [1, 2, 3, 2, 1]
OF_RANK_5 = (FIVE, counted(FIVE))
TWO_CELLS = ([2, 1, 1, 1, 2], [1, 2, 3, 4])
TABLE = ([3, 2], [1, 2, 3, 4, 5, 6])
SQUARE = ([2, 2], [1, 2, 3, 4])

RESHAPE = (
    (scalar(3), scalar(7), ([3], [7, 7, 7])),
    (scalar(1), vector(7, 8), ([1], [7])),
    (scalar(0), scalar(7), ([0], [])),
    (vector(3), vector(7, 8), ([3], [7, 8, 7])),
    (vector(2, 3), vector(1, 2, 3, 4, 5, 6, 7), ([2, 3], [1, 2, 3, 4, 5, 6])),
    (vector(2, 2), vector(1, 2, 3), ([2, 2], [1, 2, 3, 1])),
    (vector(3, 2), ([2, 3], [1, 2, 3, 4, 5, 6]), TABLE),
    (vector(3), SQUARE, ([3], [1, 2, 3])),
    (vector(1, 2, 3, 2, 1), vector(1, 2, 3, 4, 5), (FIVE, [1, 2, 3, 4, 5, 1, 2, 3, 4, 5, 1, 2])),
    (scalar(12), OF_RANK_5, ([12], counted(FIVE))),
    (vector(0, 1024), scalar(7), ([0, 1024], [])),
    (vector(0, 0, 0, 0, 0), scalar(7), ([0, 0, 0, 0, 0], [])),
    (scalar(1024), scalar(7), ([1024], [7] * 1024)),
    # no extents are told
    (empty(0), scalar(7), ([], [7])),
    (empty(0), TABLE, ([], [1])),
    (empty(0), empty(0), ([], [0])),
    (empty(0), empty(2, 0), ([], [0])),
    # y has no elements
    (scalar(3), empty(0), ([3], [0, 0, 0])),
    (vector(2, 3), empty(3, 0), ([2, 3], [0] * 6)),
    (vector(2, 0), empty(0), ([2, 0], [])),
    (scalar(1025), scalar(7), SIZE),
    (scalar(1025), empty(0), SIZE),
    (scalar(BIGGEST), scalar(7), SIZE),
    (vector(33, 32), scalar(7), SIZE),
    (vector(0, 1025), scalar(7), SIZE),
    (vector(0, 1024, 2), scalar(7), SIZE),
    (vector(1, 1, 1, 1, 1, 1), scalar(7), SIZE),
    (vector(0, 0, 0, 0, 0, 0), empty(0), SIZE),
    (scalar(-1), scalar(7), DOMAIN),
    (scalar(-BIGGEST), empty(0), DOMAIN),
    (vector(2, -1), scalar(7), DOMAIN),
    # DOMAIN ahead of SIZE, RANK ahead of both
    (vector(5000, -1), scalar(7), DOMAIN),
    (vector(-1, 5000), scalar(7), DOMAIN),
    (vector(1, 1, 1, 1, 1, -1), scalar(7), DOMAIN),
    (([1, 1], [2]), scalar(7), RANK),
    (([1, 1], [-1]), scalar(7), RANK),
    (([1, 1], [5000]), scalar(7), RANK),
    (empty(0, 0), scalar(7), RANK),
    (OF_RANK_5, scalar(7), RANK),
)

TAKE = (
    (scalar(2), vector(1, 2, 3), ([2], [1, 2])),
    (scalar(-2), vector(1, 2, 3), ([2], [2, 3])),
    (scalar(0), vector(1, 2, 3), ([0], [])),
    (scalar(3), vector(1, 2, 3), ([3], [1, 2, 3])),
    (scalar(-3), vector(1, 2, 3), ([3], [1, 2, 3])),
    (scalar(5), vector(1, 2, 3), ([5], [1, 2, 3, 0, 0])),
    (scalar(-5), vector(1, 2, 3), ([5], [0, 0, 1, 2, 3])),
    (vector(2), vector(1, 2, 3), ([2], [1, 2])),
    (vector(-2), vector(1, 2, 3), ([2], [2, 3])),
    (scalar(1), scalar(7), ([1], [7])),
    (scalar(-1), scalar(7), ([1], [7])),
    (scalar(2), scalar(7), ([2], [7, 0])),
    (scalar(-2), scalar(7), ([2], [0, 7])),
    (scalar(0), scalar(7), ([0], [])),
    (scalar(2), TABLE, ([2, 2], [1, 2, 3, 4])),
    (scalar(-2), TABLE, ([2, 2], [3, 4, 5, 6])),
    (scalar(4), TABLE, ([4, 2], [1, 2, 3, 4, 5, 6, 0, 0])),
    (scalar(-4), TABLE, ([4, 2], [0, 0, 1, 2, 3, 4, 5, 6])),
    (scalar(0), TABLE, ([0, 2], [])),
    (scalar(1), TWO_CELLS, ([1, 1, 1, 1, 2], [1, 2])),
    (scalar(-1), TWO_CELLS, ([1, 1, 1, 1, 2], [3, 4])),
    (scalar(3), TWO_CELLS, ([3, 1, 1, 1, 2], [1, 2, 3, 4, 0, 0])),
    (scalar(-3), TWO_CELLS, ([3, 1, 1, 1, 2], [0, 0, 1, 2, 3, 4])),
    # no cells, and cells without elements
    (scalar(2), empty(0), ([2], [0, 0])),
    (scalar(-2), empty(0), ([2], [0, 0])),
    (scalar(0), empty(0), ([0], [])),
    (scalar(2), empty(0, 3), ([2, 3], [0] * 6)),
    (scalar(-1), empty(0, 1024), ([1, 1024], [0] * 1024)),
    (scalar(0), empty(0, 1024), ([0, 1024], [])),
    (scalar(2), empty(3, 0), ([2, 0], [])),
    (scalar(-5), empty(3, 0), ([5, 0], [])),
    (scalar(1024), empty(3, 0), ([1024, 0], [])),
    (scalar(512), ([1, 2], [7, 8]), ([512, 2], [7, 8] + [0] * 1022)),
    (scalar(-512), ([1, 2], [7, 8]), ([512, 2], [0] * 1022 + [7, 8])),
    (scalar(513), ([1, 2], [7, 8]), SIZE),
    (scalar(-513), ([1, 2], [7, 8]), SIZE),
    (scalar(1025), scalar(7), SIZE),
    (scalar(-1025), vector(7), SIZE),
    (scalar(1025), empty(3, 0), SIZE),
    (scalar(2), empty(0, 1024), SIZE),
    (scalar(BIGGEST), scalar(7), SIZE),
    (scalar(-BIGGEST), empty(0), SIZE),
    (vector(1, 2), vector(1, 2), SHAPE),
    (empty(0), vector(1, 2), SHAPE),
    (vector(5000, 1), scalar(7), SHAPE),
    (([1, 1], [1]), vector(1, 2), RANK),
    (([1, 1], [5000]), scalar(7), RANK),
    (empty(0, 0), empty(0), RANK),
    (OF_RANK_5, OF_RANK_5, RANK),
)

DROP = (
    (scalar(1), vector(1, 2, 3), ([2], [2, 3])),
    (scalar(-1), vector(1, 2, 3), ([2], [1, 2])),
    (scalar(0), vector(1, 2, 3), ([3], [1, 2, 3])),
    (scalar(3), vector(1, 2, 3), ([0], [])),
    (scalar(-3), vector(1, 2, 3), ([0], [])),
    (scalar(4), vector(1, 2, 3), ([0], [])),
    (scalar(-4), vector(1, 2, 3), ([0], [])),
    (scalar(BIGGEST), vector(1, 2, 3), ([0], [])),
    (scalar(-BIGGEST), vector(1, 2, 3), ([0], [])),
    (vector(1), vector(1, 2, 3), ([2], [2, 3])),
    (vector(-1), vector(1, 2, 3), ([2], [1, 2])),
    (scalar(0), scalar(7), ([1], [7])),
    (scalar(1), scalar(7), ([0], [])),
    (scalar(-1), scalar(7), ([0], [])),
    (scalar(1), TABLE, ([2, 2], [3, 4, 5, 6])),
    (scalar(-1), TABLE, ([2, 2], [1, 2, 3, 4])),
    (scalar(3), TABLE, ([0, 2], [])),
    (scalar(-5), TABLE, ([0, 2], [])),
    (scalar(1), TWO_CELLS, ([1, 1, 1, 1, 2], [3, 4])),
    (scalar(-1), TWO_CELLS, ([1, 1, 1, 1, 2], [1, 2])),
    (scalar(2), TWO_CELLS, ([0, 1, 1, 1, 2], [])),
    (scalar(1), empty(0), ([0], [])),
    (scalar(-1), empty(0, 3), ([0, 3], [])),
    (scalar(1), empty(3, 0), ([2, 0], [])),
    (scalar(-4), empty(3, 0), ([0, 0], [])),
    (vector(1, 2), vector(1, 2), SHAPE),
    (empty(0), scalar(7), SHAPE),
    (([1, 1], [1]), vector(1, 2), RANK),
    (empty(0, 0), empty(0), RANK),
    (OF_RANK_5, OF_RANK_5, RANK),
)

ROTATE = (
    (scalar(1), vector(1, 2, 3), ([3], [2, 3, 1])),
    (scalar(-1), vector(1, 2, 3), ([3], [3, 1, 2])),
    (scalar(0), vector(1, 2, 3), ([3], [1, 2, 3])),
    (scalar(3), vector(1, 2, 3), ([3], [1, 2, 3])),
    (scalar(-3), vector(1, 2, 3), ([3], [1, 2, 3])),
    (scalar(4), vector(1, 2, 3), ([3], [2, 3, 1])),
    (scalar(-4), vector(1, 2, 3), ([3], [3, 1, 2])),
    (scalar(BIGGEST), vector(1, 2, 3), ([3], [2, 3, 1])),
    (scalar(-BIGGEST), vector(1, 2, 3), ([3], [3, 1, 2])),
    (vector(1), vector(1, 2, 3), ([3], [2, 3, 1])),
    (scalar(1), vector(7), ([1], [7])),
    (scalar(1), TABLE, ([3, 2], [3, 4, 5, 6, 1, 2])),
    (scalar(-1), TABLE, ([3, 2], [5, 6, 1, 2, 3, 4])),
    (scalar(1), TWO_CELLS, ([2, 1, 1, 1, 2], [3, 4, 1, 2])),
    (scalar(-2), TWO_CELLS, TWO_CELLS),
    (scalar(1), OF_RANK_5, OF_RANK_5),
    (scalar(5), empty(0), ([0], [])),
    (scalar(-BIGGEST), empty(0, 3), ([0, 3], [])),
    (scalar(1), empty(3, 0), ([3, 0], [])),
    # a scalar is itself, but x is looked at
    (scalar(5), scalar(7), ([], [7])),
    (vector(5), scalar(7), ([], [7])),
    (vector(1, 2), scalar(7), SHAPE),
    (empty(0), scalar(7), SHAPE),
    (([1, 1], [1]), scalar(7), RANK),
    (vector(1, 2), vector(1, 2), SHAPE),
    (empty(0), empty(0), SHAPE),
    (([1, 1], [1]), vector(1, 2), RANK),
    (empty(0, 0), empty(0), RANK),
    (OF_RANK_5, OF_RANK_5, RANK),
)

JOIN = (
    (scalar(1), scalar(2), ([2], [1, 2])),
    (scalar(1), vector(2, 3), ([3], [1, 2, 3])),
    (vector(1, 2), scalar(3), ([3], [1, 2, 3])),
    (vector(1, 2), vector(3), ([3], [1, 2, 3])),
    (scalar(1), empty(0), ([1], [1])),
    (empty(0), scalar(1), ([1], [1])),
    (empty(0), vector(1, 2), ([2], [1, 2])),
    (vector(1, 2), empty(0), ([2], [1, 2])),
    (empty(0), empty(0), ([0], [])),
    # a scalar beside more than a vector
    (scalar(9), SQUARE, ([3, 2], [9, 9, 1, 2, 3, 4])),
    (SQUARE, scalar(9), ([3, 2], [1, 2, 3, 4, 9, 9])),
    (scalar(9), OF_RANK_5, ([2, 2, 3, 2, 1], [9] * 12 + counted(FIVE))),
    (OF_RANK_5, scalar(9), ([2, 2, 3, 2, 1], counted(FIVE) + [9] * 12)),
    (scalar(9), empty(0, 2), ([1, 2], [9, 9])),
    (empty(0, 2), scalar(9), ([1, 2], [9, 9])),
    (scalar(9), empty(2, 0), ([3, 0], [])),
    (empty(2, 0), scalar(9), ([3, 0], [])),
    (scalar(9), empty(0, 1024), ([1, 1024], [9] * 1024)),
    # a rank that's one less
    (vector(8, 9), SQUARE, ([3, 2], [8, 9, 1, 2, 3, 4])),
    (SQUARE, vector(8, 9), ([3, 2], [1, 2, 3, 4, 8, 9])),
    (SQUARE, ([1, 2, 2], [5, 6, 7, 8]), ([2, 2, 2], [1, 2, 3, 4, 5, 6, 7, 8])),
    (([2, 3, 2, 1], [9] * 12), OF_RANK_5, ([2, 2, 3, 2, 1], [9] * 12 + counted(FIVE))),
    (OF_RANK_5, ([2, 3, 2, 1], [9] * 12), ([2, 2, 3, 2, 1], counted(FIVE) + [9] * 12)),
    (empty(0), empty(3, 0), ([4, 0], [])),
    (empty(3, 0), empty(0), ([4, 0], [])),
    (empty(0), empty(0, 0), ([1, 0], [])),
    (vector(8, 9), empty(0, 2), ([1, 2], [8, 9])),
    # the same rank
    (([1, 2], [8, 9]), SQUARE, ([3, 2], [8, 9, 1, 2, 3, 4])),
    (SQUARE, ([1, 2], [8, 9]), ([3, 2], [1, 2, 3, 4, 8, 9])),
    (OF_RANK_5, OF_RANK_5, ([2, 2, 3, 2, 1], counted(FIVE) * 2)),
    (empty(0, 2), SQUARE, SQUARE),
    (SQUARE, empty(0, 2), SQUARE),
    (empty(2, 0), empty(3, 0), ([5, 0], [])),
    (empty(0, 0), empty(0, 0), ([0, 0], [])),
    # cells of other shapes, ranks that are further apart
    (vector(7, 8, 9), SQUARE, SHAPE),
    (SQUARE, vector(7, 8, 9), SHAPE),
    (vector(7), SQUARE, SHAPE),
    (empty(0), SQUARE, SHAPE),
    (SQUARE, ([2, 3], counted([2, 3])), SHAPE),
    (empty(0, 3), SQUARE, SHAPE),
    (empty(2, 0), SQUARE, SHAPE),
    (empty(0, 2), empty(0, 3), SHAPE),
    (vector(8, 9), ([1, 1, 2], [8, 9]), SHAPE),
    (([1, 1, 2], [8, 9]), vector(8, 9), SHAPE),
    (([3, 2, 1], [9] * 6), OF_RANK_5, SHAPE),
    (OF_RANK_5, ([3, 2, 1], [9] * 6), SHAPE),
    (OF_RANK_5, vector(1), SHAPE),
    # SIZE, behind SHAPE
    (([1024], counted([1024])), scalar(9), SIZE),
    (scalar(9), ([1024], counted([1024])), SIZE),
    (([1024], counted([1024])), empty(0), ([1024], counted([1024]))),
    (([512, 2], counted([1024])), vector(8, 9), SIZE),
    (([512, 2], counted([1024])), empty(0, 2), ([512, 2], counted([1024]))),
    (scalar(9), empty(1024, 0), SIZE),
    (empty(1024, 0), empty(0), SIZE),
    (empty(1024, 0), empty(0, 0), ([1024, 0], [])),
    (empty(2, 0, 300), empty(2, 0, 300), SIZE),
    (empty(1, 0, 512), empty(1, 0, 512), ([2, 0, 512], [])),
    (([1024], counted([1024])), ([600, 1], counted([600])), SHAPE),
    (empty(1024, 0), empty(2, 0, 0, 0), SHAPE),
)

PICK = (
    (scalar(1), vector(7, 8, 9), ([], [8])),
    (vector(2, 0, 2), vector(7, 8, 9), ([3], [9, 7, 9])),
    (([2, 2], [0, 1, 1, 0]), vector(7, 8), ([2, 2], [7, 8, 8, 7])),
    (([1, 1, 1, 1, 1], [1]), vector(7, 8), ([1, 1, 1, 1, 1], [8])),
    (scalar(1), TABLE, ([2], [3, 4])),
    (vector(2, 0), TABLE, ([2, 2], [5, 6, 1, 2])),
    (([1, 2], [1, 1]), TABLE, ([1, 2, 2], [3, 4, 3, 4])),
    (scalar(0), OF_RANK_5, ([2, 3, 2, 1], counted(FIVE))),
    (vector(0, 0), OF_RANK_5, ([2, 2, 3, 2, 1], counted(FIVE) * 2)),
    (vector(1), TWO_CELLS, ([1, 1, 1, 1, 2], [3, 4])),
    # no elements on either side
    (empty(0), vector(7), ([0], [])),
    (empty(0), empty(0), ([0], [])),
    (empty(0), TABLE, ([0, 2], [])),
    (empty(2, 0), TABLE, ([2, 0, 2], [])),
    (empty(2, 0), empty(0, 3), ([2, 0, 3], [])),
    (scalar(1), empty(2, 0), ([0], [])),
    (vector(1, 0, 1), empty(2, 0), ([3, 0], [])),
    (scalar(3), vector(7, 8, 9), INDEX),
    (scalar(-1), vector(7, 8, 9), INDEX),
    (vector(0, 3), vector(7, 8, 9), INDEX),
    (vector(-1, 0), vector(7, 8, 9), INDEX),
    (scalar(BIGGEST), vector(7), INDEX),
    (scalar(-BIGGEST), vector(7), INDEX),
    (scalar(2), SQUARE, INDEX),
    (scalar(0), empty(0), INDEX),
    (scalar(0), empty(0, 3), INDEX),
    (scalar(2), empty(2, 0), INDEX),
    (([32], [0] * 32), ([1, 32], [5] * 32), ([32, 32], [5] * 1024)),
    (([33], [0] * 33), ([1, 32], [5] * 32), SIZE),
    (empty(0, 33), ([1, 32], [5] * 32), SIZE),
    (([33], [0] * 33), empty(1, 0, 32), SIZE),
    (([1, 1], [0]), OF_RANK_5, SIZE),
    (([1, 1, 1, 1, 1], [0]), SQUARE, SIZE),
    # INDEX ahead of SIZE, RANK ahead of both
    (([33], [0] * 32 + [1]), ([1, 32], [5] * 32), INDEX),
    (([1, 1], [1]), OF_RANK_5, INDEX),
    (scalar(0), scalar(7), RANK),
    (scalar(5), scalar(7), RANK),
    (empty(0), scalar(7), RANK),
    (OF_RANK_5, scalar(7), RANK),
)

FIND = (
    (vector(5, 6, 5), scalar(5), ([], [0])),
    (vector(5, 6, 5), scalar(6), ([], [1])),
    (vector(5, 6, 5), scalar(9), ([], [3])),
    (vector(5, 6, 5), vector(6, 5, 9, 6), ([4], [1, 0, 3, 1])),
    (vector(3, 1), SQUARE, ([2, 2], [1, 2, 0, 2])),
    (vector(11, 0), OF_RANK_5, (FIVE, [1, 2, 2, 2, 2, 2, 2, 2, 2, 2, 2, 0])),
    (SQUARE, vector(3, 4), ([], [1])),
    (SQUARE, vector(4, 3), ([], [2])),
    (SQUARE, ([3, 2], [3, 4, 1, 2, 2, 1]), ([3], [1, 0, 2])),
    (([3, 2], [1, 2, 1, 2, 3, 4]), ([2, 1, 2], [3, 4, 1, 2]), ([2, 1], [2, 0])),
    (OF_RANK_5, OF_RANK_5, ([1], [0])),
    (OF_RANK_5, ([2, 3, 2, 1], counted(FIVE)), ([], [0])),
    (OF_RANK_5, ([2, 3, 2, 1], [0] * 12), ([], [1])),
    (TWO_CELLS, ([2, 1, 1, 1, 2], [3, 4, 4, 3]), ([2], [1, 2])),
    # no elements on either side
    (empty(0), scalar(5), ([], [0])),
    (empty(0), vector(5, 6), ([2], [0, 0])),
    (empty(0), empty(0, 2), ([0, 2], [])),
    (vector(5, 6), empty(0), ([0], [])),
    (vector(5, 6), empty(2, 0), ([2, 0], [])),
    (SQUARE, empty(0, 2), ([0], [])),
    (SQUARE, empty(3, 0, 2), ([3, 0], [])),
    (empty(0, 2), vector(5, 6), ([], [0])),
    (empty(0, 2), SQUARE, ([2], [0, 0])),
    (empty(2, 0), empty(0), ([], [0])),
    (empty(2, 0), empty(3, 0), ([3], [0, 0, 0])),
    (empty(0, 0), empty(3, 0), ([3], [0, 0, 0])),
    # y has too few extents, or others
    (SQUARE, scalar(5), SHAPE),
    (SQUARE, vector(5), SHAPE),
    (SQUARE, vector(1, 2, 3), SHAPE),
    (SQUARE, ([2, 3], counted([2, 3])), SHAPE),
    (SQUARE, empty(0), SHAPE),
    (SQUARE, empty(2, 0), SHAPE),
    (empty(2, 0), vector(5), SHAPE),
    (empty(0, 2), empty(0, 3), SHAPE),
    (OF_RANK_5, ([3, 2, 1], counted([3, 2, 1])), SHAPE),
    (OF_RANK_5, ([2, 3, 2, 2], counted([2, 3, 2, 2])), SHAPE),
    # RANK ahead of SHAPE
    (scalar(5), scalar(5), RANK),
    (scalar(5), vector(5, 6), RANK),
    (scalar(5), empty(0), RANK),
    (scalar(5), OF_RANK_5, RANK),
)

SAME = (
    (scalar(3), scalar(3), 1),
    (scalar(3), scalar(4), 0),
    (scalar(-3), scalar(3), 0),
    (scalar(BIGGEST), scalar(BIGGEST - 1), 0),
    (vector(1, 2), vector(1, 2), 1),
    (vector(1, 2), vector(2, 1), 0),
    (vector(1, 2), vector(1, 2, 3), 0),
    (SQUARE, SQUARE, 1),
    (SQUARE, ([2, 2], [1, 2, 3, 5]), 0),
    (OF_RANK_5, OF_RANK_5, 1),
    (OF_RANK_5, (FIVE, counted(FIVE)[:-1] + [0]), 0),
    # the same data, but not the same shape
    (scalar(3), vector(3), 0),
    (vector(3), scalar(3), 0),
    (vector(1, 2), ([1, 2], [1, 2]), 0),
    (TABLE, ([2, 3], [1, 2, 3, 4, 5, 6]), 0),
    (OF_RANK_5, ([1, 2, 3, 1, 2], counted(FIVE)), 0),
    (empty(0), empty(0), 1),
    (empty(0, 3), empty(0, 3), 1),
    (empty(0), empty(0, 3), 0),
    (empty(0, 3), empty(3, 0), 0),
    (empty(0), scalar(0), 0),
    (scalar(0), empty(0, 0), 0),
)

KEEP = (
    (scalar(2), vector(1, 2, 3), ([6], [1, 1, 2, 2, 3, 3])),
    (scalar(1), vector(1, 2, 3), ([3], [1, 2, 3])),
    (scalar(0), vector(1, 2, 3), ([0], [])),
    (vector(2, 0, 1), vector(7, 8, 9), ([3], [7, 7, 9])),
    (vector(0, 0, 0), vector(7, 8, 9), ([0], [])),
    (scalar(3), scalar(7), ([3], [7, 7, 7])),
    (scalar(0), scalar(7), ([0], [])),
    (vector(3), scalar(7), ([3], [7, 7, 7])),
    (vector(1, 2), SQUARE, ([3, 2], [1, 2, 3, 4, 3, 4])),
    (scalar(2), SQUARE, ([4, 2], [1, 2, 1, 2, 3, 4, 3, 4])),
    (vector(0, 0), SQUARE, ([0, 2], [])),
    (vector(0, 1), TWO_CELLS, ([1, 1, 1, 1, 2], [3, 4])),
    (scalar(2), TWO_CELLS, ([4, 1, 1, 1, 2], [1, 2, 1, 2, 3, 4, 3, 4])),
    (vector(2), OF_RANK_5, ([2, 2, 3, 2, 1], counted(FIVE) * 2)),
    # no cells, and cells without elements
    (empty(0), empty(0), ([0], [])),
    (empty(0), empty(0, 3), ([0, 3], [])),
    (scalar(5), empty(0), ([0], [])),
    (scalar(BIGGEST), empty(0, 3), ([0, 3], [])),
    (vector(1, 2), empty(2, 0), ([3, 0], [])),
    (scalar(3), empty(2, 0), ([6, 0], [])),
    (scalar(512), vector(1, 2), ([1024], [1] * 512 + [2] * 512)),
    (scalar(513), vector(1, 2), SIZE),
    (scalar(1025), scalar(7), SIZE),
    (scalar(BIGGEST), scalar(7), SIZE),
    (vector(1, 1024), vector(7, 8), SIZE),
    (vector(257), ([1, 2, 2], [1, 2, 3, 4]), SIZE),
    (vector(1025, 0), empty(2, 0), SIZE),
    (vector(BIGGEST, BIGGEST), SQUARE, SIZE),
    (scalar(-1), vector(7, 8), DOMAIN),
    (scalar(-1), scalar(7), DOMAIN),
    (scalar(-1), empty(0), DOMAIN),
    (vector(0, -1), vector(7, 8), DOMAIN),
    # DOMAIN ahead of SIZE, SHAPE ahead of DOMAIN, RANK ahead of all
    (vector(-1, 5000), vector(7, 8), DOMAIN),
    (vector(5000, -1), vector(7, 8), DOMAIN),
    (vector(1, 1, 1), vector(7, 8), SHAPE),
    (vector(1), vector(7, 8), SHAPE),
    (vector(-1, 1, 1), vector(7, 8), SHAPE),
    (vector(5000), SQUARE, SHAPE),
    (vector(1, 1), scalar(7), SHAPE),
    (empty(0), scalar(7), SHAPE),
    (empty(0), vector(7), SHAPE),
    (vector(1), empty(0), SHAPE),
    (([1, 2], [1, 1]), vector(7, 8), RANK),
    (([1, 1], [-1]), vector(7, 8), RANK),
    (([1, 1], [5000]), scalar(7), RANK),
    (empty(0, 0), empty(0), RANK),
    (OF_RANK_5, OF_RANK_5, RANK),
)


class MovesTest(TwoTest):
    def expect_each(self, base, rows):
        for x, y, answer in rows:
            self.expect_two(base, x, y, answer)
            self.expect_two(base + ":swap", y, x, answer)

    def test_reshape(self):
        self.expect_each("Reshape", RESHAPE)

    def test_take(self):
        self.expect_each("Take", TAKE)

    def test_drop(self):
        self.expect_each("Drop", DROP)

    def test_rotate(self):
        self.expect_each("Rotate", ROTATE)

    def test_join(self):
        self.expect_each("Join", JOIN)

    def test_pick(self):
        self.expect_each("Pick", PICK)

    def test_find(self):
        self.expect_each("Find", FIND)

    def test_same(self):
        self.expect_each("Same", [(x, y, ([], [number])) for x, y, number in SAME])

    def test_keep(self):
        self.expect_each("Keep", KEEP)


if __name__ == "__main__":
    unittest.main()
