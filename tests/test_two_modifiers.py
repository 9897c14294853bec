"""two: every modifier with two operands."""

import unittest

from calls import BIG, BIGGEST, DOMAIN, INDEX, RANK, SHAPE, SIZE, ZERO, TwoTest, counted, empty, scalar, vector
from texts import MODIFIERS

FIVE = [1, 2, 3, 2, 1]
OF_RANK_5 = (FIVE, counted(FIVE))
TWOS = "+ - * Div Mod Min Max < <= = /= And Or Reshape Take Drop Rotate Join Pick Find Same Keep".split()
TABLE = ([2, 3], [10, 20, 30, 40, 50, 60])
SQUARE = ([2, 2], [1, 2, 3, 4])
CUBE = ([2, 2, 2], [0, 1, 2, 3, 4, 5, 6, 7])
TENS = ([2, 2], [10, 11, 12, 13])

ENDS = (
    ("-:fold", scalar(100), vector(10, 3, 2), ([], [85])),
    ("-:scan", scalar(100), vector(10, 3, 2), ([3], [90, 87, 85])),
    ("+", vector(1, 2), TABLE, ([2, 3], [11, 21, 31, 42, 52, 62])),
    ("+", vector(1, 2, 3), TABLE, SHAPE),
    ("+:at 1", vector(1, 2, 3), TABLE, ([2, 3], [11, 22, 33, 41, 52, 63])),
    ("Same:table", vector(1, 2), vector(2, 1), ([2, 2], [0, 1, 1, 0])),
)

AT = (
    # frames that are the same
    ("Join:at 0", vector(1, 2), vector(3, 4), ([2, 2], [1, 3, 2, 4])),
    ("Join:at 1", SQUARE, TENS, ([2, 4], [1, 2, 10, 11, 3, 4, 12, 13])),
    ("Join:at 1", SQUARE, ([2, 1], [8, 9]), ([2, 3], [1, 2, 8, 3, 4, 9])),
    ("Join:at 0", scalar(1), scalar(2), ([2], [1, 2])),
    ("Join:at 1", vector(1, 2), vector(3), ([3], [1, 2, 3])),
    ("Join:at 2", SQUARE, TENS, ([4, 2], [1, 2, 3, 4, 10, 11, 12, 13])),
    ("Join:at 2", SQUARE, vector(8, 9), ([3, 2], [1, 2, 3, 4, 8, 9])),
    ("Join:at 5", vector(8, 9), SQUARE, ([3, 2], [8, 9, 1, 2, 3, 4])),
    ("-:at 0", OF_RANK_5, (FIVE, [1] * 12), (FIVE, [number - 1 for number in counted(FIVE)])),
    ("Same:at 4", OF_RANK_5, OF_RANK_5, ([1], [1])),
    ("Same:at 2", OF_RANK_5, (FIVE, [0, 1, 2, 3, 0, 5, 6, 7, 8, 9, 10, 0]), ([1, 2, 3], [1, 1, 0, 1, 1, 0])),
    ("Same:at 5", OF_RANK_5, OF_RANK_5, ([], [1])),
    # y has the longer one
    ("-:at 0", scalar(100), vector(1, 2), ([2], [99, 98])),
    ("-:at 0", vector(1, 2), TABLE, ([2, 3], [-9, -19, -29, -38, -48, -58])),
    ("Join:at 0", vector(1, 2), SQUARE, ([2, 2, 2], [1, 1, 1, 2, 2, 3, 2, 4])),
    ("Join:at 1", scalar(9), TABLE, ([2, 4], [9, 10, 20, 30, 9, 40, 50, 60])),
    ("Join:at 1", vector(8, 9), TABLE, ([2, 5], [8, 9, 10, 20, 30, 8, 9, 40, 50, 60])),
    ("Join:at 1", TENS, CUBE, ([2, 2, 4], [10, 11, 0, 1, 10, 11, 2, 3, 12, 13, 4, 5, 12, 13, 6, 7])),
    ("Join:at 2", vector(8, 9), CUBE, ([2, 3, 2], [8, 9, 0, 1, 2, 3, 8, 9, 4, 5, 6, 7])),
    ("Join:at 2", TENS, CUBE, ([2, 4, 2], [10, 11, 12, 13, 0, 1, 2, 3, 10, 11, 12, 13, 4, 5, 6, 7])),
    ("Find:at 4", ([2, 1, 2], [8, 10, 9, 11]), OF_RANK_5, SHAPE),
    ("Find:at 4", ([2, 2, 1], [8, 9, 10, 11]), OF_RANK_5, ([1, 2, 3], [2, 2, 2, 2, 0, 1])),
    # x has the longer one
    ("-:at 0", vector(1, 2), scalar(100), ([2], [-99, -98])),
    ("-:at 0", TABLE, vector(1, 2), ([2, 3], [9, 19, 29, 38, 48, 58])),
    ("-:at 1", TABLE, vector(1, 2, 3), ([2, 3], [9, 18, 27, 39, 48, 57])),
    ("Join:at 0", SQUARE, vector(1, 2), ([2, 2, 2], [1, 1, 2, 1, 3, 2, 4, 2])),
    ("Join:at 1", TABLE, scalar(9), ([2, 4], [10, 20, 30, 9, 40, 50, 60, 9])),
    ("Join:at 1", TABLE, vector(8, 9), ([2, 5], [10, 20, 30, 8, 9, 40, 50, 60, 8, 9])),
    ("Join:at 1", CUBE, TENS, ([2, 2, 4], [0, 1, 10, 11, 2, 3, 10, 11, 4, 5, 12, 13, 6, 7, 12, 13])),
    ("Join:at 2", CUBE, vector(8, 9), ([2, 3, 2], [0, 1, 2, 3, 8, 9, 4, 5, 6, 7, 8, 9])),
    ("Pick:at 1", ([2, 1, 2], [1, 0, 1, 1]), ([2, 2], [5, 6, 7, 8]), ([2, 1, 2], [6, 5, 8, 8])),
    # frames that don't agree, ahead of any working
    ("-:at 0", vector(1, 2), vector(1, 2, 3), SHAPE),
    ("-:at 0", vector(1, 2, 3), TABLE, SHAPE),
    ("-:at 0", TABLE, vector(1, 2, 3), SHAPE),
    ("Div:at 0", vector(1, 1), vector(0, 0, 0), SHAPE),
    ("Div:at 0", vector(1, 1), empty(0), SHAPE),
    ("Same:at 1", SQUARE, ([3, 2], counted([3, 2])), SHAPE),
    ("Same:at 1", ([3, 2], counted([3, 2])), CUBE, SHAPE),
    ("Same:at 1", CUBE, ([3, 2], counted([3, 2])), SHAPE),
    ("Same:at 1", empty(0, 2), ([1, 2], [1, 2]), SHAPE),
    ("Same:at 3", OF_RANK_5, ([2, 1, 1, 1], [1, 1]), SHAPE),
    # the cells don't agree in the working of F itself
    ("-:at 1", vector(1, 2), TABLE, SHAPE),
    ("-:at 1", TABLE, vector(1, 2), SHAPE),
    ("-:at 2", vector(1, 2, 3), TABLE, SHAPE),
)

WITHOUT_CELLS = (
    ("Join:at 0", empty(0), empty(0), ([0, 2], [])),
    ("Join:at 0", scalar(1), empty(0), ([0, 2], [])),
    ("Join:at 0", empty(0), scalar(1), ([0, 2], [])),
    ("Join:at 0", vector(1, 2), empty(2, 0), ([2, 0, 2], [])),
    ("Join:at 0", empty(2, 0), vector(1, 2), ([2, 0, 2], [])),
    ("Join:at 1", empty(0, 3), empty(0, 2), ([0, 5], [])),
    ("Join:at 1", vector(1, 2), empty(0, 3), ([0, 5], [])),
    ("Join:at 1", empty(0, 3), vector(1, 2), ([0, 5], [])),
    ("Join:at 1", empty(2, 0, 3), empty(2, 0, 3), ([2, 0, 6], [])),
    ("Join:at 1", SQUARE, empty(2, 0, 3), ([2, 0, 5], [])),
    ("Join:at 1", scalar(1), empty(0, 3), ([0, 4], [])),
    ("Join:at 2", empty(0, 3, 2), vector(1, 2), ([0, 4, 2], [])),
    ("Same:at 1", empty(0, 3), empty(0, 2), ([0], [])),
    ("-:at 1", empty(0, 3), empty(0, 3), ([0, 3], [])),
    ("-:at 2", empty(0, 3, 2), vector(1, 2, 3), ([0, 3, 2], [])),
    ("Find:at 1", empty(0, 3), empty(0, 2), ([0, 2], [])),
    # every operand's cell is one of zeros, also where there are others
    ("Reshape:at 1", vector(2, 3), empty(0, 4), ([0, 0, 0], [])),
    ("Take:at 1", vector(5), empty(0, 4), ([0, 0], [])),
    ("Take:at 1", scalar(-5), empty(0, 4), ([0, 0], [])),
    ("Drop:at 1", scalar(2), empty(0, 3), ([0, 3], [])),
    ("Keep:at 1", vector(1, 1), empty(0, 2), ([0, 0], [])),
    ("Keep:at 1", vector(-1, -1), empty(0, 2), ([0, 0], [])),
    ("Pick:at 1", vector(5), empty(0, 1), ([0, 1], [])),
    ("And:at 1", vector(2, 2), empty(0, 2), ([0, 2], [])),
    # the working is refused
    ("Div:at 1", empty(0, 3), empty(0, 3), ([0], [])),
    ("Div:at 1", empty(0, 3), vector(1, 1, 1), ([0], [])),
    ("Mod:at 1", vector(1, 1, 1), empty(0, 3), ([0], [])),
    ("Div:at 0", empty(2, 0), vector(1, 1), ([2, 0], [])),
    ("-:at 1", empty(0, 3), empty(0, 2), ([0], [])),
    ("-:at 1", vector(1, 2), empty(0, 3), ([0], [])),
    ("Join:at 2", empty(0, 3, 2), vector(1, 2, 3), ([0], [])),
    ("Join:at 1", empty(0, 1024), empty(0, 1), ([0], [])),
    ("Pick:at 1", empty(0, 1), empty(0, 0), ([0], [])),
    ("Pick:at 0", empty(0), empty(0), ([0], [])),
    ("Find:at 0", empty(0), empty(0), ([0], [])),
    ("Find:at 2", empty(0, 2, 2), empty(0, 2, 3), ([0], [])),
    ("Reshape:at 1", empty(0, 6), scalar(7), ([0], [])),
    ("Take:at 1", empty(0, 2), scalar(7), ([0], [])),
    ("Rotate:at 2", empty(0, 1, 1), scalar(7), ([0], [])),
    # cells of zeros that have no elements themselves
    ("Rotate:at 1", empty(0, 1), empty(0, 0), ([0, 0], [])),
    ("Div:at 1", empty(0, 0), empty(0, 0), ([0, 0], [])),
    ("Reshape:at 1", empty(0, 0), empty(0, 0), ([0], [])),
    # one behind another
    ("Join:at 0:at 1", empty(0, 2), empty(0, 2), ([0, 2, 2], [])),
    ("Join:at 0:at 1", empty(0, 0), empty(0, 0), ([0, 0, 2], [])),
    ("Join:at 0:at 1", vector(1, 2), empty(0, 2), ([0, 2, 2], [])),
    ("-:at 0:at 1", empty(0, 2), empty(0, 3), ([0], [])),
    ("-:fold:at 1", scalar(5), empty(0, 3), ([0], [])),
    ("-:fold:at 1", vector(5, 6), empty(0, 3), ([0, 2], [])),
    ("-:fold:at 1", vector(5, 6), empty(0, 0), ([0, 2], [])),
    ("Div:fold:at 1", vector(5, 6), empty(0, 3), ([0], [])),
    ("Div:fold:at 1", vector(5, 6), empty(0, 0), ([0, 2], [])),
    ("-:scan:at 1", scalar(5), empty(0, 3), ([0, 3], [])),
    ("-:scan:at 1", vector(5, 6), empty(0, 3), ([0, 3, 2], [])),
    ("-:scan:at 1", vector(5, 6), empty(0, 0), ([0, 0], [])),
    ("Join:table:at 1", vector(5, 6), empty(0, 3), ([0, 2, 3, 2], [])),
    ("Join:swap:at 1", vector(5, 6), empty(0, 3), ([0, 5], [])),
    # the frame and then the told shape is no shape
    ("Join:at 1", empty(0, 256, 2), empty(0, 256, 2), ([0, 256, 4], [])),
    ("Join:at 1", empty(0, 512, 2), empty(0, 512, 2), SIZE),
    ("Join:at 1", vector(1, 2), empty(0, 512, 2), SIZE),
    ("Join:at 0", empty(0, 1, 1, 1, 1), empty(0, 1, 1, 1, 1), SIZE),
    ("Join:table:at 2", SQUARE, empty(0, 2, 2), SIZE),
)

WITHOUT_ELEMENTS = (
    ("Same:at 1", empty(3, 0), empty(3, 0), ([3], [1, 1, 1])),
    ("Same:at 1", empty(0), empty(3, 0), ([3], [1, 1, 1])),
    ("Same:at 2", empty(3, 0, 2), empty(0, 2), ([3], [1, 1, 1])),
    ("Join:at 1", empty(2, 0), SQUARE, SQUARE),
    ("Join:at 1", SQUARE, empty(2, 0), SQUARE),
    ("Join:at 1", empty(0), SQUARE, SQUARE),
    ("Join:at 1", empty(2, 0), vector(8, 9), ([2, 2], [8, 9, 8, 9])),
    ("Find:at 1", empty(2, 0), SQUARE, ([2, 2], [0, 0, 0, 0])),
    ("Reshape:at 1", vector(2), empty(3, 0), ([3, 2], [0] * 6)),
    ("Reshape:at 1", empty(2, 0), SQUARE, ([2], [1, 3])),
    ("Take:at 1", scalar(2), empty(3, 0), ([3, 2], [0] * 6)),
    ("-:at 1", empty(3, 0), empty(3, 0), ([3, 0], [])),
    ("Div:at 1", empty(3, 0), empty(3, 0), ([3, 0], [])),
    ("Div:at 1", empty(3, 0), scalar(0), ([3, 0], [])),
    ("-:fold:at 1", scalar(5), empty(3, 0), ([3], [5, 5, 5])),
    ("-:scan:at 1", scalar(5), empty(3, 0), ([3, 0], [])),
    ("Pick:at 1", vector(0), empty(3, 0), INDEX),
    ("Take:at 1", empty(3, 0), vector(1, 2), SHAPE),
    ("Same:at 1", empty(1024, 0), empty(0), ([1024], [1] * 1024)),
)

GATHERING = (
    ("Reshape:at 0", vector(2, 2), vector(7, 8), ([2, 2], [7, 7, 8, 8])),
    ("Reshape:at 0", vector(2, 1), vector(7, 8), SHAPE),
    ("Reshape:at 0", vector(1, 2), scalar(7), SHAPE),
    ("Reshape:at 0", vector(2, 2, 1), scalar(7), SHAPE),
    ("Reshape:at 0", vector(0, 0), scalar(7), ([2, 0], [])),
    ("Reshape:at 1", ([2, 2], [1, 4, 4, 1]), vector(7, 8), SHAPE),
    ("Reshape:at 1", ([2, 2], [1, 4, 1, 4]), vector(7, 8), ([2, 1, 4], [7, 8] * 4)),
    # SIZE, by the product and by the rank, also where there are no elements
    ("Reshape:at 0", ([32], [32] * 32), scalar(7), ([32, 32], [7] * 1024)),
    ("Reshape:at 0", ([33], [32] * 33), scalar(7), SIZE),
    ("Reshape:at 1", ([2, 4], [1] * 8), scalar(7), ([2, 1, 1, 1, 1], [7, 7])),
    ("Reshape:at 1", ([2, 5], [1] * 10), scalar(7), SIZE),
    ("Reshape:at 1", ([2, 2], [0, 512] * 2), scalar(7), ([2, 0, 512], [])),
    ("Reshape:at 1", ([2, 2], [0, 1024] * 2), scalar(7), SIZE),
    # SHAPE ahead of SIZE, a refusal of the working ahead of both, and the first of these
    ("Reshape:at 0", ([33], [32] * 32 + [31]), scalar(7), SHAPE),
    ("Reshape:at 0", ([33], [32] * 32 + [-1]), scalar(7), DOMAIN),
    ("Reshape:at 0", vector(1, 2, -1), scalar(7), DOMAIN),
    ("Reshape:at 0", vector(5000, -1), scalar(7), SIZE),
    ("Reshape:at 0", vector(-1, 5000), scalar(7), DOMAIN),
    ("Pick:at 1", ([3, 1], [0, 2, 0]), vector(5, 6), INDEX),
    ("Find:at 0", vector(5, 6), scalar(5), RANK),
    ("Div:at 0", vector(1, 1, 1), vector(1, 0, 1), ZERO),
    ("*:at 0", vector(1, BIGGEST, 1), vector(1, 2, 1), BIG),
)

TABLES = (
    ("-:table", scalar(5), scalar(3), ([], [2])),
    ("-:table", scalar(5), vector(1, 2), ([2], [4, 3])),
    ("-:table", vector(1, 2), scalar(5), ([2], [-4, -3])),
    ("-:table", vector(1, 2), vector(10, 20, 30), ([2, 3], [-9, -19, -29, -8, -18, -28])),
    ("-:table", vector(10, 20, 30), vector(1, 2), ([3, 2], [9, 8, 19, 18, 29, 28])),
    ("-:table", SQUARE, vector(10, 20), ([2, 2, 2], [-9, -19, -8, -18, -7, -17, -6, -16])),
    ("-:table", vector(10, 20), SQUARE, ([2, 2, 2], [9, 8, 7, 6, 19, 18, 17, 16])),
    ("-:table", ([2, 1], [10, 20]), ([1, 2, 1], [1, 2]), ([2, 1, 1, 2, 1], [9, 8, 19, 18])),
    ("-:table", OF_RANK_5, scalar(1), (FIVE, [number - 1 for number in counted(FIVE)])),
    ("-:table", scalar(1), OF_RANK_5, (FIVE, [1 - number for number in counted(FIVE)])),
    ("Join:table", scalar(1), scalar(2), ([2], [1, 2])),
    ("Join:table", vector(1, 2), vector(3, 4), ([2, 2, 2], [1, 3, 1, 4, 2, 3, 2, 4])),
    ("Reshape:table", vector(2, 2), vector(7, 8), ([2, 2, 2], [7, 7, 8, 8, 7, 7, 8, 8])),
    ("Reshape:table", vector(1, 2), vector(7, 8), SHAPE),
    ("Find:table", vector(1, 2), vector(7, 8), RANK),
    ("Div:table", vector(1, 2), vector(1, 0), ZERO),
    ("+:table", ([32], [1] * 32), ([32], [1] * 32), ([32, 32], [2] * 1024)),
    # x's shape and then y's is no shape: ahead of any working
    ("+:table", ([32], [1] * 32), ([33], [1] * 33), SIZE),
    ("Div:table", ([33], [1] * 33), ([32], [0] * 32), SIZE),
    ("Div:table", ([32], [1] * 32), ([32], [0] * 32), ZERO),
    ("Div:table", ([1, 1, 1], [1]), ([1, 1, 1], [0]), SIZE),
    ("Div:table", OF_RANK_5, vector(0), SIZE),
    ("Div:table", vector(1), OF_RANK_5, SIZE),
    ("Div:table", empty(0, 33), ([32], [0] * 32), SIZE),
    ("Div:table", ([32], [0] * 32), empty(33, 0), SIZE),
    ("+:table", empty(0, 0, 0), empty(0, 0, 0), SIZE),
    ("+:table", empty(0, 1024), empty(0, 2), SIZE),
    # no elements on one side, and on both
    ("Join:table", empty(0), vector(1, 2), ([0, 2, 2], [])),
    ("Join:table", vector(1, 2), empty(0), ([2, 0, 2], [])),
    ("Join:table", scalar(1), empty(0, 3), ([0, 3, 2], [])),
    ("Join:table", empty(0, 3), scalar(1), ([0, 3, 2], [])),
    ("Join:table", empty(0), empty(0), ([0, 0, 2], [])),
    ("Join:table", empty(2, 0), empty(0, 3), ([2, 0, 0, 3, 2], [])),
    ("-:table", empty(2, 0), empty(0, 3), ([2, 0, 0, 3], [])),
    ("Reshape:table", vector(3), empty(0), ([1, 0, 0], [])),
    ("Take:table", empty(0), vector(7), ([0, 1, 0], [])),
    ("Keep:table", vector(-1), empty(0), ([1, 0, 0], [])),
    ("Div:table", empty(0), vector(1, 2), ([0, 2], [])),
    ("Mod:table", vector(1, 2), empty(0), ([2, 0], [])),
    ("Div:table", empty(0), empty(0), ([0, 0], [])),
    ("Find:table", empty(0), vector(1), ([0, 1], [])),
    ("Pick:table", vector(1), empty(0), ([1, 0], [])),
    ("Join:table", empty(0, 1, 1), ([1, 1], [5]), SIZE),
    ("Join:table", empty(0, 512), vector(1, 2), SIZE),
    # SIZE at the gathering: behind SHAPE, and behind a refusal of the working
    ("Join:table", ([32], [1] * 32), ([32], [1] * 32), SIZE),
    ("Join:table", OF_RANK_5, scalar(1), SIZE),
    ("Reshape:table", ([32], [2] * 31 + [3]), ([32], [1] * 32), SHAPE),
    ("Reshape:table", ([32], [2] * 31 + [-1]), ([32], [1] * 32), DOMAIN),
)

FOLD = (
    ("-:fold", scalar(100), vector(10), ([], [90])),
    ("-:fold", vector(1, 2), vector(10, 20), ([2], [-29, -28])),
    ("-:fold", vector(10, 20), SQUARE, ([2], [6, 14])),
    ("-:fold", scalar(0), SQUARE, ([2], [-4, -6])),
    ("-:fold", SQUARE, vector(1, 2), ([2, 2], [-2, -1, 0, 1])),
    ("-:fold", SQUARE, TENS, ([2, 2], [-21, -20, -21, -20])),
    ("-:fold", vector(1, 2, 3), SQUARE, SHAPE),
    ("-:fold", scalar(0), CUBE, ([2, 2], [-4, -6, -8, -10])),
    ("Join:fold", scalar(9), vector(1, 2), ([3], [9, 1, 2])),
    ("Join:fold", empty(0), vector(1, 2), ([2], [1, 2])),
    ("Join:fold", vector(8, 9), SQUARE, ([6], [8, 9, 1, 2, 3, 4])),
    ("Reshape:fold", scalar(3), vector(7, 8), ([7, 7, 7], [8] * 343)),
    ("Take:swap:fold", vector(1, 2, 3), vector(2, -3), ([3], [0, 1, 2])),
    ("Pick:swap:fold", CUBE, vector(1, 0, 1), ([], [5])),
    ("+:fold", scalar(0), ([1024], counted([1024])), ([], [523776])),
    # a scalar y counts as a vector
    ("-:fold", scalar(100), scalar(3), ([], [97])),
    ("-:fold", vector(1, 2), scalar(3), ([2], [-2, -1])),
    ("-:fold", OF_RANK_5, scalar(1), (FIVE, [number - 1 for number in counted(FIVE)])),
    # one cell
    ("-:fold", vector(10, 20), ([1, 2], [1, 2]), ([2], [9, 18])),
    ("-:fold", scalar(0), OF_RANK_5, ([2, 3, 2, 1], [-number for number in counted(FIVE)])),
    ("Same:fold", vector(1, 2), ([1, 2], [1, 2]), ([], [1])),
    # cells without elements
    ("Same:fold", empty(0), empty(1, 0), ([], [1])),
    ("Same:fold", empty(0), empty(2, 0), ([], [0])),
    ("Join:fold", vector(1), empty(3, 0), ([1], [1])),
    ("Div:fold", scalar(7), empty(3, 0), ([0], [])),
    # the first refusal counts
    ("Div:fold", scalar(7), vector(1, 0, 2), ZERO),
    ("*:fold", scalar(BIGGEST), vector(10, 0), BIG),
    ("Reshape:fold", scalar(5), vector(-1, 5), DOMAIN),
    ("Reshape:fold", scalar(5), vector(5000, -1), SIZE),
    ("Take:fold", scalar(2), vector(5, 6), SHAPE),
    ("Find:fold", scalar(2), vector(5, 6), RANK),
    ("Pick:fold", scalar(2), SQUARE, INDEX),
)

SCAN = (
    ("-:scan", scalar(100), vector(10), ([1], [90])),
    ("-:scan", vector(1, 2), vector(10, 20), ([2, 2], [-9, -8, -29, -28])),
    ("-:scan", vector(10, 20), SQUARE, ([2, 2], [9, 18, 6, 14])),
    ("-:scan", scalar(0), SQUARE, ([2, 2], [-1, -2, -4, -6])),
    ("-:scan", SQUARE, vector(1, 2), ([2, 2, 2], [0, 1, 2, 3, -2, -1, 0, 1])),
    ("-:scan", scalar(0), CUBE, ([2, 2, 2], [0, -1, -2, -3, -4, -6, -8, -10])),
    ("-:swap:scan", scalar(100), vector(10, 3, 2), ([3], [-90, 93, -91])),
    ("Max:scan", scalar(3), vector(1, 5, 4), ([3], [3, 5, 5])),
    # a scalar y counts as a vector
    ("-:scan", scalar(100), scalar(3), ([1], [97])),
    ("-:scan", vector(1, 2), scalar(3), ([1, 2], [-2, -1])),
    # one cell
    ("-:scan", vector(10, 20), ([1, 2], [1, 2]), ([1, 2], [9, 18])),
    ("Join:scan", scalar(9), vector(1), ([1, 2], [9, 1])),
    ("Same:scan", vector(1, 2), ([1, 2], [1, 2]), ([1], [1])),
    ("-:scan", scalar(0), OF_RANK_5, (FIVE, [-number for number in counted(FIVE)])),
    # cells without elements
    ("Same:scan", empty(0), empty(2, 0), ([2], [1, 0])),
    ("-:scan", scalar(5), empty(3, 0), ([3, 0], [])),
    # what comes out has unlike shapes; the first refusal of the working is ahead of that
    ("Join:scan", scalar(9), vector(1, 2), SHAPE),
    ("Reshape:scan", scalar(3), vector(2, 1), SHAPE),
    ("Reshape:scan", scalar(3), vector(2, -1), SHAPE),
    ("Reshape:scan", scalar(2), vector(-1, 5), DOMAIN),
    ("Div:scan", scalar(7), vector(1, 0, 2), ZERO),
    ("*:scan", scalar(BIGGEST), vector(10, 0), BIG),
    # SIZE at the gathering, behind SHAPE
    ("+:scan", ([32], [1] * 32), ([32], [0] * 32), ([32, 32], [1] * 1024)),
    ("+:scan", ([32], [1] * 32), ([33], [0] * 33), SIZE),
    ("+:scan", ([33], [1] * 33), ([32], [0] * 32), SIZE),
    ("+:scan", OF_RANK_5, scalar(1), SIZE),
    ("+:scan", empty(0, 512), vector(1, 2), ([2, 0, 512], [])),
    ("+:scan", empty(0, 512), vector(1, 2, 3), SIZE),
    ("Join:scan", ([100], [1] * 100), ([20], [1] * 20), SHAPE),
    ("Div:scan", ([33], [1] * 33), ([32], [1] * 31 + [0]), ZERO),
)

SWAP = (
    ("-:swap", scalar(1), scalar(5), ([], [4])),
    ("-:swap", vector(1, 2), TABLE, ([2, 3], [9, 19, 29, 38, 48, 58])),
    ("-:swap", TABLE, vector(1, 2), ([2, 3], [-9, -19, -29, -38, -48, -58])),
    ("-:swap", vector(1, 2), vector(1, 2, 3), SHAPE),
    ("-:swap", empty(2, 0), vector(1, 2), ([2, 0], [])),
    ("Join:swap", vector(1, 2), vector(3), ([3], [3, 1, 2])),
    ("Div:swap", scalar(0), scalar(5), ZERO),
    ("Div:swap", scalar(5), scalar(0), ([], [0])),
    ("Find:swap", scalar(5), vector(4, 5), ([], [1])),
    ("Find:swap", vector(4, 5), scalar(5), RANK),
    # of a swap
    ("-:swap:swap", scalar(1), scalar(5), ([], [-4])),
    ("Join:swap:swap", vector(1, 2), vector(3), ([3], [1, 2, 3])),
    ("Join:swap:swap:swap", vector(1, 2), vector(3), ([3], [3, 1, 2])),
    # of the other modifiers
    ("-:fold:swap", vector(10, 3, 2), scalar(100), ([], [85])),
    ("-:scan:swap", vector(10, 3, 2), scalar(100), ([3], [90, 87, 85])),
    ("-:table:swap", vector(1, 2), vector(10, 20, 30), ([3, 2], [9, 8, 19, 18, 29, 28])),
    ("Join:at 1:swap", vector(8, 9), TABLE, ([2, 5], [10, 20, 30, 8, 9, 40, 50, 60, 8, 9])),
    ("-:fold:swap", empty(0), scalar(100), ([], [100])),
    ("-:scan:swap", empty(0, 2), scalar(100), ([0, 2], [])),
)

CHAINS = (
    ("-:swap:fold", scalar(100), vector(10, 3, 2), ([], [-91])),
    ("-:swap:table", vector(1, 2), vector(10, 20, 30), ([2, 3], [9, 19, 29, 8, 18, 28])),
    ("Join:swap:at 1", vector(8, 9), SQUARE, ([2, 4], [1, 2, 8, 9, 3, 4, 8, 9])),
    ("-:fold:at 0", vector(100, 200), vector(1, 2), ([2], [99, 198])),
    ("-:fold:at 1", scalar(100), SQUARE, ([2], [97, 93])),
    ("-:fold:at 1", vector(100, 200), SQUARE, ([2, 2], [97, 197, 93, 193])),
    ("-:fold:at 1", TENS, SQUARE, ([2, 2], [7, 8, 5, 6])),
    ("-:fold:at 2", vector(100, 200), SQUARE, ([2], [96, 194])),
    ("-:scan:at 1", scalar(100), SQUARE, ([2, 2], [99, 97, 97, 93])),
    ("-:scan:at 1", vector(100, 200), SQUARE, ([2, 2, 2], [99, 199, 97, 197, 97, 197, 93, 193])),
    ("-:table:at 1", vector(1, 2), TENS, ([2, 2, 2], [-9, -10, -8, -9, -11, -12, -10, -11])),
    ("-:table:at 1", TENS, SQUARE, ([2, 2, 2], [9, 8, 10, 9, 9, 8, 10, 9])),
    ("-:at 0:table", vector(1, 2), vector(10, 20), ([2, 2], [-9, -19, -8, -18])),
    ("-:at 5:table", vector(1, 2), vector(10, 20), ([2, 2], [-9, -19, -8, -18])),
    ("-:table:table", vector(1, 2), vector(10, 20), ([2, 2], [-9, -19, -8, -18])),
    ("-:fold:table", vector(10, 20), vector(1, 2), ([2, 2], [9, 8, 19, 18])),
    ("-:scan:table", vector(10, 20), vector(1, 2), ([2, 2, 1], [9, 8, 19, 18])),
    ("-:table:fold", scalar(0), vector(1, 2), ([], [-3])),
    ("-:table:fold", vector(1, 2), ([1, 2], [10, 20]), ([2, 2], [-9, -19, -8, -18])),
    ("-:table:fold", vector(1, 2), ([2, 2], [10, 20, 0, 100]), ([2, 2, 2], [-9, -109, -19, -119, -8, -108, -18, -118])),
    ("-:table:scan", vector(1, 2), ([1, 2], [10, 20]), ([1, 2, 2], [-9, -19, -8, -18])),
    ("-:table:scan", vector(1, 2), SQUARE, SHAPE),
    ("-:at 1:fold", TABLE, ([1, 3], [1, 2, 3]), ([2, 3], [9, 18, 27, 39, 48, 57])),
    ("-:at 1:scan", TABLE, ([1, 3], [1, 2, 3]), ([1, 2, 3], [9, 18, 27, 39, 48, 57])),
    ("-:fold:fold", scalar(100), SQUARE, ([], [90])),
    ("-:fold:scan", scalar(100), SQUARE, ([2], [97, 90])),
    ("-:scan:fold", scalar(100), SQUARE, ([2, 2], [96, 94, 92, 90])),
    ("-:scan:scan", scalar(100), SQUARE, SHAPE),
    ("-:scan:scan", scalar(100), ([1, 2], [1, 2]), ([1, 2], [99, 97])),
    ("-:fold:swap:fold", scalar(100), SQUARE, ([2], [200, 201])),
    ("-:fold:fold:at 2", scalar(100), CUBE, ([2], [94, 78])),
    ("-:at 0:at 1:at 2", vector(1, 2), SQUARE, ([2, 2], [0, 0, -2, -2])),
    ("-:at 2:at 0:at 1", SQUARE, vector(1, 2), ([2, 2], [0, 0, 2, 2])),
    ("-:swap:at 1:swap:at 0", TABLE, vector(1, 2), ([2, 3], [9, 19, 29, 38, 48, 58])),
    ("Same:at 1:table", vector(1, 2), vector(2, 1), ([2, 2], [0, 1, 1, 0])),
    ("Join:fold:table:at 1", vector(1, 2), ([2, 1], [3, 4]), ([2, 2, 1, 2], [1, 3, 2, 3, 1, 4, 2, 4])),
)


class ModifiersTest(TwoTest):
    def test_the_documents_ends(self):
        self.expect_rows(ENDS)

    def test_at(self):
        self.expect_rows(AT)

    def test_at_each_rank(self):
        # The cells are told by their shapes: a table of two of them has both shapes behind the frame.
        shapes = ([], [3], [2, 2], [2, 1, 2], [2, 2, 1, 1, 1])
        for x_shape in shapes:
            for y_shape in shapes:
                for rank in range(6):
                    x_frame = x_shape[:max(len(x_shape) - rank, 0)]
                    y_frame = y_shape[:max(len(y_shape) - rank, 0)]
                    frame = max(y_frame, x_frame, key=len)
                    shape = frame + x_shape[len(x_frame):] + y_shape[len(y_frame):]
                    same = min(len(x_frame), len(y_frame))
                    answer = (shape, [5] * len(counted(shape)))
                    if x_frame[:same] != y_frame[:same]:
                        answer = SHAPE
                    elif len(shape) > 5:
                        answer = SIZE
                    x = (x_shape, [7] * len(counted(x_shape)))
                    y = (y_shape, [2] * len(counted(y_shape)))
                    self.expect_two(f"-:table:at {rank}", x, y, answer)

    def test_at_ranks_above_both_operands(self):
        for rank in range(2, 6):
            for x, y in ((vector(8, 9), vector(7)), (scalar(8), vector(7)), (vector(8), scalar(7))):
                self.expect_two(f"Join:at {rank}", x, y, ([len(x[1] + y[1])], x[1] + y[1]))
            self.expect_two(f"-:at {rank}", vector(8, 9), SQUARE, ([2, 2], [7, 6, 6, 5]))
            self.expect_two(f"-:at {rank}", SQUARE, vector(8, 9), ([2, 2], [-7, -6, -6, -5]))

    def test_frames_without_cells(self):
        self.expect_rows(WITHOUT_CELLS)

    def test_cells_without_elements(self):
        self.expect_rows(WITHOUT_ELEMENTS)

    def test_gathering(self):
        self.expect_rows(GATHERING)

    def test_table(self):
        self.expect_rows(TABLES)

    def test_fold(self):
        self.expect_rows(FOLD)

    def test_fold_of_no_cells(self):
        for base in TWOS:
            for behind in [""] + MODIFIERS:
                for x in (scalar(5), vector(1, 2, 3), SQUARE, OF_RANK_5, empty(0), empty(2, 0)):
                    for y in (empty(0), empty(0, 2), empty(0, 3, 0), empty(0, 1, 1, 1, 1), empty(0, 1024)):
                        self.expect_two(base + behind + ":fold", x, y, x)

    def test_fold_of_no_cells_that_it_begins_with_x(self):
        self.expect_two("Max:fold", scalar(5), empty(0), ([], [5]))
        self.expect_two("Max:fold:swap", empty(0), scalar(5), ([], [5]))
        self.expect_two("Max:fold:fold", empty(0), empty(0), ([0], []))
        self.expect_two("+:fold", vector(1, 2), empty(0, 3), ([2], [1, 2]))
        self.expect_two("Max:fold:fold", vector(1, 2), empty(1, 0), ([2], [1, 2]))
        self.expect_two("Max:fold:scan", vector(1, 2), empty(1, 0), ([1, 2], [1, 2]))
        self.expect_two("Max:fold:swap", vector(1, 2), empty(1, 0), ([1, 0], []))

    def test_scan(self):
        self.expect_rows(SCAN)

    def test_scan_of_no_cells(self):
        for base in TWOS:
            for behind in [""] + MODIFIERS:
                for x in (scalar(5), vector(1, 2, 3), SQUARE, OF_RANK_5, empty(0), empty(2, 0)):
                    for y in (empty(0), empty(0, 2), empty(0, 3, 0), empty(0, 1, 1, 1, 1), empty(0, 1024)):
                        self.expect_two(base + behind + ":scan", x, y, y)

    def test_swap(self):
        self.expect_rows(SWAP)

    def test_chains(self):
        self.expect_rows(CHAINS)

    def test_eight_modifiers(self):
        self.expect_two("-" + ":swap" * 8, scalar(1), scalar(5), ([], [-4]))
        self.expect_two("-" + ":swap" * 7 + ":at 0", scalar(1), vector(5, 6), ([2], [4, 5]))
        self.expect_two("-" + ":swap" * 7 + ":fold", scalar(100), vector(10, 3, 2), ([], [-91]))
        self.expect_two("Join" + ":at 0" * 8, vector(1, 2), vector(3, 4), ([2, 2], [1, 3, 2, 4]))
        self.expect_two("-" + ":table" * 8, vector(1, 2), vector(3, 4), ([2, 2], [-2, -3, -1, -2]))
        self.expect_two("-" + ":fold" * 8, scalar(100), CUBE, ([], [72]))
        self.expect_two("-" + ":scan" * 4 + ":fold" * 4, scalar(9), scalar(1), ([1, 1, 1, 1], [8]))
        self.expect_two("-" + ":scan" * 5, scalar(9), scalar(1), ([1, 1, 1, 1, 1], [8]))
        self.expect_two("-" + ":scan" * 6, scalar(9), scalar(1), SIZE)


if __name__ == "__main__":
    unittest.main()
