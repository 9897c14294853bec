"""one: every modifier."""

import unittest

from calls import BIG, BIGGEST, DOMAIN, EMPTY, INDEX, RANK, SHAPE, SIZE, USE, ZERO, OneTest, counted
from texts import BASES, MODIFIERS

FIVE = [1, 2, 3, 2, 1]
TWOS = "+ - * Div Mod Min Max < <= = /= And Or Reshape Take Drop Rotate Join Pick Find Same Keep".split()

ENDS = (
    ("-:fold", [3], [10, 3, 2], ([], [5])),
    ("-:scan", [3], [10, 3, 2], ([3], [10, 7, 5])),
    ("+:fold", [0, 2], [], ([2], [0, 0])),
    ("Max:fold", [0], [], EMPTY),
    ("Join:fold", [2, 2], [1, 2, 3, 4], ([4], [1, 2, 3, 4])),
    ("Iota:at 0", [2], [2, 3], SHAPE),
    ("Iota:at 0", [2], [2, 2], ([2, 2], [0, 1, 0, 1])),
    ("Iota:at 0", [0], [], ([0, 0], [])),
    ("+:swap", [], [4], ([], [8])),
    ("Abs:swap", [], [4], USE),
    ("Abs:swap", [0, 3], [], USE),
    ("*:fold", [2], [BIGGEST, 10], BIG),
)

AT = (
    ("Turn:at 1", [2, 3], [1, 2, 3, 4, 5, 6], ([2, 3], [3, 2, 1, 6, 5, 4])),
    ("Turn:at 0", [2, 3], [1, 2, 3, 4, 5, 6], ([2, 3], [1, 2, 3, 4, 5, 6])),
    ("Turn:at 2", [2, 3], [1, 2, 3, 4, 5, 6], ([2, 3], [4, 5, 6, 1, 2, 3])),
    ("Turn:at 3", [2, 3], [1, 2, 3, 4, 5, 6], ([2, 3], [4, 5, 6, 1, 2, 3])),
    ("Turn:at 2", [2, 2, 2], [0, 1, 2, 3, 4, 5, 6, 7], ([2, 2, 2], [2, 3, 0, 1, 6, 7, 4, 5])),
    ("Flip:at 2", [2, 2, 2], [0, 1, 2, 3, 4, 5, 6, 7], ([2, 2, 2], [0, 2, 1, 3, 4, 6, 5, 7])),
    ("Ravel:at 2", [2, 2, 2], [0, 1, 2, 3, 4, 5, 6, 7], ([2, 4], [0, 1, 2, 3, 4, 5, 6, 7])),
    ("Grade:at 1", [2, 3], [3, 1, 2, 0, 5, 0], ([2, 3], [1, 2, 0, 0, 2, 1])),
    ("First:at 1", [2, 3], [1, 2, 3, 4, 5, 6], ([2], [1, 4])),
    ("First:at 2", [2, 2, 2], [0, 1, 2, 3, 4, 5, 6, 7], ([2, 2], [0, 1, 4, 5])),
    ("Iota:at 1", [2, 2], [1, 2, 1, 2], ([2, 1, 2], [0, 1, 0, 1])),
    ("Where:at 1", [2, 2], [2, 0, 1, 1], ([2, 2], [0, 0, 0, 1])),
    ("+:fold:at 1", [2, 3], [1, 2, 3, 4, 5, 6], ([2], [6, 15])),
    ("+:fold:at 0", [2, 3], [1, 2, 3, 4, 5, 6], ([2, 3], [1, 2, 3, 4, 5, 6])),
    ("+:fold:at 2", [2, 3], [1, 2, 3, 4, 5, 6], ([3], [5, 7, 9])),
    ("+:fold:at 5", [2, 3], [1, 2, 3, 4, 5, 6], ([3], [5, 7, 9])),
    ("-:scan:at 1", [2, 3], [10, 3, 2, 5, 5, 5], ([2, 3], [10, 7, 5, 5, 0, -5])),
    ("Join:swap:at 1", [2, 2], [1, 2, 3, 4], ([2, 4], [1, 2, 1, 2, 3, 4, 3, 4])),
    # one :at behind another goes through the cells of the cells
    ("Turn:at 1:at 2", [2, 2, 2], [0, 1, 2, 3, 4, 5, 6, 7], ([2, 2, 2], [1, 0, 3, 2, 5, 4, 7, 6])),
    ("Turn:at 2:at 1", [2, 2, 2], [0, 1, 2, 3, 4, 5, 6, 7], ([2, 2, 2], [1, 0, 3, 2, 5, 4, 7, 6])),
    ("Turn:at 2:at 5:at 3", [2, 2, 2], [0, 1, 2, 3, 4, 5, 6, 7], ([2, 2, 2], [2, 3, 0, 1, 6, 7, 4, 5])),
    ("+:fold:at 1:at 2", [2, 2, 2], [0, 1, 2, 3, 4, 5, 6, 7], ([2, 2], [1, 5, 9, 13])),
)

# With two operands: x and y are the cells that the fold or the swap behind :at hands over.
AT_OF_TWO = (
    ("-:at 0:fold", [2, 3], [10, 20, 30, 1, 2, 3], ([3], [9, 18, 27])),
    ("-:at 1:fold", [2, 2, 2], [10, 20, 30, 40, 1, 2, 3, 4], ([2, 2], [9, 18, 27, 36])),
    ("Same:at 0:fold", [2, 2, 2], [1, 2, 3, 4, 1, 2, 4, 3], ([2, 2], [1, 1, 0, 0])),
    ("Same:at 1:fold", [2, 2, 2], [1, 2, 3, 4, 1, 2, 4, 3], ([2], [1, 0])),
    ("Same:at 2:fold", [2, 2, 2], [1, 2, 3, 4, 1, 2, 4, 3], ([], [0])),
    ("Same:at 5:fold", [2, 2, 2], [1, 2, 3, 4, 1, 2, 3, 4], ([], [1])),
    ("Same:at 0:at 1:fold", [2, 2, 2], [1, 2, 3, 4, 1, 2, 4, 3], ([2, 2], [1, 1, 0, 0])),
    ("Same:at 1:at 0:fold", [2, 2, 2], [1, 2, 3, 4, 1, 2, 4, 3], ([2, 2], [1, 1, 0, 0])),
    ("Same:at 5:at 1:fold", [2, 2, 2], [1, 2, 3, 4, 1, 2, 4, 3], ([2], [1, 0])),
    ("-:swap:at 1:fold", [2, 2, 2], [10, 20, 30, 40, 1, 2, 3, 4], ([2, 2], [-9, -18, -27, -36])),
    ("-:fold:at 1:fold", [2, 2, 2], [10, 20, 30, 40, 1, 2, 3, 4], ([2, 2], [7, 17, 23, 33])),
    ("Join:at 0:fold", [2, 2], [1, 2, 3, 4], ([2, 2], [1, 3, 2, 4])),
    ("Join:at 0:fold", [3, 2], [1, 2, 3, 4, 5, 6], ([2, 2, 2], [1, 5, 3, 5, 2, 6, 4, 6])),
    ("Join:at 0:swap:fold", [3, 2], [1, 2, 3, 4, 5, 6], ([2, 2, 2], [5, 3, 5, 1, 6, 4, 6, 2])),
    ("Join:at 1:fold", [2, 2, 2], [0, 1, 2, 3, 4, 5, 6, 7], ([2, 4], [0, 1, 4, 5, 2, 3, 6, 7])),
    ("Pick:at 1:fold", [2, 2, 2], [1, 0, 0, 0, 5, 6, 7, 8], ([2, 2], [6, 5, 7, 7])),
    # x has the longer frame, then y has it
    ("-:at 1:fold:fold", [2, 2, 2], [1, 2, 3, 4, 10, 20, 30, 40], ([2, 2], [-39, -58, -37, -56])),
    ("-:at 1:swap:fold:fold", [2, 2, 2], [1, 2, 3, 4, 10, 20, 30, 40], ([2, 2], [21, 22, 23, 24])),
    ("-:at 0:fold:fold", [2, 2, 2], [1, 2, 3, 4, 10, 20, 30, 40], ([2, 2], [-39, -38, -57, -56])),
    ("-:at 1:fold:fold", [2, 2, 3], [1, 2, 3, 4, 5, 6, 1, 1, 1, 0, 1, 2], ([2, 3], [0, 0, 0, 3, 3, 3])),
    ("Join:at 1:fold:fold", [2, 2, 1], [1, 2, 3, 4], ([2, 3], [1, 3, 4, 2, 3, 4])),
    ("Join:at 1:swap:fold:fold", [2, 2, 1], [1, 2, 3, 4], ([2, 3], [4, 3, 1, 4, 3, 2])),
    # an operand of a rank below the one that's told is one cell by itself
    ("Join:at 1:fold", [3], [1, 2, 3], ([3], [1, 2, 3])),
    ("Join:at 1:fold:fold:fold", [2, 2, 1], [1, 2, 3, 4], ([2, 3], [1, 3, 4, 2, 3, 4])),
    # frames that don't agree, ahead of any working
    ("-:at 0:fold:fold", [2, 2, 3], counted([2, 2, 3]), SHAPE),
    ("Div:at 0:fold:fold", [2, 1, 3], [0] * 6, SHAPE),
    ("Div:at 0:fold:fold", [2, 0, 3], [], ([0, 3], [])),
    ("Same:at 1:fold:fold", [2, 2, 3, 1], counted([2, 2, 3, 1]), SHAPE),
    # the first refusal counts
    ("Pick:at 1:fold", [2, 2, 2], [1, 0, 0, 2, 5, 6, 7, 8], INDEX),
    ("Div:at 0:fold", [2, 2], [1, 1, 1, 0], ZERO),
    ("Reshape:at 0:fold", [2, 2], [-1, 5000, 7, 7], DOMAIN),
    ("Reshape:at 0:fold", [2, 2], [5000, -1, 7, 7], SIZE),
    ("Reshape:at 0:fold", [2, 3], [1, 2, -1, 7, 7, 7], DOMAIN),
    ("Reshape:at 0:fold", [2, 2], [1, 2, 7, 7], SHAPE),
    ("Reshape:at 0:fold", [2, 33], [32] * 66, SIZE),
    ("Reshape:at 0:fold", [2, 32], [32] * 64, ([32, 32], [32] * 1024)),
)

WITHOUT_CELLS = (
    ("Iota:at 0", [0, 3], [], ([0, 3, 0], [])),
    ("Iota:at 1", [0, 3], [], ([0, 0, 0, 0], [])),
    ("Count:at 1", [0, 3], [], ([0], [])),
    ("Shape:at 2", [0, 3, 4], [], ([0, 2], [])),
    ("Shape:at 0", [0], [], ([0, 0], [])),
    ("First:at 2", [0, 3, 4], [], ([0, 4], [])),
    ("First:at 1", [2, 0, 3], [], ([2, 0], [])),
    ("Flip:at 2", [0, 3, 4], [], ([0, 4, 3], [])),
    ("Turn:at 1", [0, 3], [], ([0, 3], [])),
    ("Ravel:at 2", [0, 3, 4], [], ([0, 12], [])),
    ("Ravel:at 0", [2, 0], [], ([2, 0, 1], [])),
    ("Grade:at 1", [0, 3], [], ([0, 3], [])),
    ("Grade:at 2", [0, 3, 2], [], ([0, 3], [])),
    ("Where:at 1", [0, 3], [], ([0, 0], [])),
    ("-:at 1", [0, 3], [], ([0, 3], [])),
    ("Not:at 1", [0, 3], [], ([0, 3], [])),
    ("+:swap:at 1", [0, 2], [], ([0, 2], [])),
    ("Join:swap:at 1", [0, 2], [], ([0, 4], [])),
    ("Join:swap:at 0", [0], [], ([0, 2], [])),
    ("+:fold:at 1", [0, 3], [], ([0], [])),
    ("+:fold:at 2", [0, 2, 3], [], ([0, 3], [])),
    ("+:fold:at 2", [0, 0, 3], [], ([0, 3], [])),
    ("Max:fold:at 2", [0, 2, 3], [], ([0, 3], [])),
    ("Join:fold:at 2", [0, 2, 2], [], ([0, 4], [])),
    ("+:scan:at 1", [0, 2], [], ([0, 2], [])),
    ("+:scan:at 0", [0], [], ([0, 1], [])),
    ("Reshape:swap:at 1", [0, 2], [], ([0, 0, 0], [])),
    ("Take:swap:at 0", [0], [], ([0, 0], [])),
    # the working is refused
    ("Grade:at 0", [0], [], ([0], [])),
    ("Grade:at 0", [0, 3], [], ([0, 3], [])),
    ("Where:at 0", [0], [], ([0], [])),
    ("Where:at 2", [0, 1, 1], [], ([0], [])),
    ("Iota:at 2", [0, 1, 1], [], ([0], [])),
    ("Div:swap:at 1", [0, 2], [], ([0], [])),
    ("Mod:swap:at 1", [0, 2], [], ([0], [])),
    ("Max:fold:at 1", [0, 0], [], ([0], [])),
    ("Max:fold:at 2", [0, 0, 3], [], ([0], [])),
    ("Find:swap:at 0", [0], [], ([0], [])),
    ("Pick:swap:at 0", [0], [], ([0], [])),
    ("Pick:swap:at 2", [0, 1, 2], [], ([0, 1, 2, 2], [])),
    ("Take:swap:at 1", [0, 2], [], ([0], [])),
    ("Reshape:swap:at 1", [0, 6], [], ([0], [])),
    ("Join:swap:at 1", [0, 1024], [], ([0], [])),
    ("-:fold:fold:at 3", [0, 2, 2, 3], [], ([0], [])),
    # cells of zeros that have no elements themselves
    ("Grade:at 1", [0, 0], [], ([0, 0], [])),
    ("Iota:at 1", [0, 0], [], ([0], [])),
    ("First:at 1", [0, 0], [], ([0], [])),
    ("Count:at 2", [0, 4, 0], [], ([0], [])),
    # one behind another
    ("Iota:at 0:at 1", [0, 2], [], ([0, 2, 0], [])),
    ("Iota:at 0:at 1", [0, 0], [], ([0, 0, 0], [])),
    ("Grade:at 0:at 1", [0, 2], [], ([0], [])),
    ("Grade:at 0:at 1", [0, 0], [], ([0, 0], [])),
    # the frame and then the told shape is no shape
    ("Join:swap:at 1", [0, 512, 2], [], SIZE),
    ("Join:swap:at 1", [0, 256, 2], [], ([0, 256, 4], [])),
    ("Reshape:swap:at 1", [0, 5], [], SIZE),
    ("Reshape:swap:at 1", [0, 4], [], ([0, 0, 0, 0, 0], [])),
    ("Ravel:at 0", [0, 1, 1, 1, 1], [], SIZE),
    # with two operands
    ("Join:at 0:fold", [2, 0], [], ([0, 2], [])),
    ("Join:at 1:fold", [2, 0, 3], [], ([0, 6], [])),
    ("Join:at 1:fold:fold", [2, 1, 0], [], ([1, 0], [])),
    ("Join:at 1:swap", [0, 3], [], ([0, 6], [])),
    ("Div:at 1:swap", [0, 3], [], ([0], [])),
    ("Find:at 0:swap", [0, 3], [], ([0, 3], [])),
    ("Find:at 1:swap", [0, 3], [], ([0, 3], [])),
    ("Join:table:swap", [0], [], ([0, 0, 2], [])),
    ("Join:table:swap", [2, 0], [], ([2, 0, 2, 0, 2], [])),
    ("Div:table:swap", [0], [], ([0, 0], [])),
    ("Same:table:swap", [0, 3], [], ([0, 3, 0, 3], [])),
)

WITHOUT_ELEMENTS = (
    ("Count:at 1", [3, 0], [], ([3], [0, 0, 0])),
    ("Shape:at 1", [3, 0], [], ([3, 1], [0, 0, 0])),
    ("First:at 1", [3, 0], [], ([3], [0, 0, 0])),
    ("First:at 2", [2, 0, 2], [], ([2, 2], [0, 0, 0, 0])),
    ("Iota:at 1", [3, 0], [], ([3], [0, 0, 0])),
    ("Grade:at 1", [3, 0], [], ([3, 0], [])),
    ("Grade:at 2", [2, 3, 0], [], ([2, 3], [0, 1, 2, 0, 1, 2])),
    ("Where:at 1", [3, 0], [], ([3, 0], [])),
    ("Same:swap:at 1", [3, 0], [], ([3], [1, 1, 1])),
    ("+:fold:at 1", [3, 0], [], ([3], [0, 0, 0])),
    ("Or:fold:at 1", [3, 0], [], ([3], [0, 0, 0])),
    ("*:fold:at 1", [3, 0], [], ([3], [1, 1, 1])),
    ("And:fold:at 1", [3, 0], [], ([3], [1, 1, 1])),
    ("Max:fold:at 1", [3, 0], [], EMPTY),
    ("Div:swap:at 1", [3, 0], [], ([3, 0], [])),
    ("Iota:at 2", [3, 0, 0], [], RANK),
    ("Count:at 1", [1024, 0], [], ([1024], [0] * 1024)),
)

GATHERING = (
    ("Iota:at 0", [3], [2, 2, 3], SHAPE),
    ("Iota:at 0", [3], [3, 2, 2], SHAPE),
    ("Iota:at 0", [3], [2, 3, 2], SHAPE),
    ("Iota:at 0", [1], [3], ([1, 3], [0, 1, 2])),
    ("Iota:at 0", [], [3], ([3], [0, 1, 2])),
    ("Iota:at 0", [2, 2], [2, 2, 2, 2], ([2, 2, 2], [0, 1, 0, 1, 0, 1, 0, 1])),
    ("Iota:at 0", [2], [0, 0], ([2, 0], [])),
    ("Iota:at 1", [2, 2], [0, 5, 5, 0], SHAPE),
    ("Iota:at 1", [2, 2], [2, 3, 3, 2], SHAPE),
    ("Where:at 1", [2, 2], [2, 0, 1, 0], SHAPE),
    # SIZE, by the product and by the rank, also where there are no elements
    ("Iota:at 0", [32], [32] * 32, ([32, 32], counted([32]) * 32)),
    ("Iota:at 0", [33], [32] * 33, SIZE),
    ("Iota:at 1", [2, 4], [1] * 8, ([2, 1, 1, 1, 1], [0, 0])),
    ("Iota:at 1", [2, 5], [1] * 10, SIZE),
    ("Iota:at 1", [1, 5], [0] * 5, SIZE),
    ("Iota:at 1", [2, 2], [0, 1024, 0, 1024], SIZE),
    ("Iota:at 1", [2, 2], [0, 512, 0, 512], ([2, 0, 512], [])),
    ("Ravel:at 0", FIVE, counted(FIVE), SIZE),
    # SHAPE ahead of SIZE, a refusal of the working ahead of both
    ("Iota:at 0", [2], [1024, 1023], SHAPE),
    ("Iota:at 0", [3], [2, 3, -1], DOMAIN),
    ("Iota:at 0", [3], [2, 3, 5000], SIZE),
    ("Iota:at 0", [34], [32] * 33 + [-1], DOMAIN),
    ("Grade:at 0", [2], [1, 2], RANK),
    # the first refusal counts
    ("Iota:at 0", [2], [5000, -1], SIZE),
    ("Iota:at 0", [2], [-1, 5000], DOMAIN),
    ("Not:at 0", [3], [1, 0, 2], DOMAIN),
)

TABLE = (
    ("Iota:table", [2], [2, 2], ([2, 2], [0, 1, 0, 1])),
    ("Iota:table", [2], [2, 3], SHAPE),
    ("Iota:table", [0], [], ([0, 0], [])),
    ("Iota:table", [], [2], ([2], [0, 1])),
    ("Count:table", [2, 2], [5, 6, 7, 8], ([2, 2], [1, 1, 1, 1])),
    ("Ravel:table", [2, 2], [5, 6, 7, 8], ([2, 2, 1], [5, 6, 7, 8])),
    ("Ravel:table", FIVE, counted(FIVE), SIZE),
    ("-:table", [2], [5, -6], ([2], [-5, 6])),
    ("+:fold:table", [2, 2], [5, 6, 7, 8], ([2, 2], [5, 6, 7, 8])),
    ("+:swap:table", [2], [5, 6], ([2], [10, 12])),
    ("Abs:table:table", [2], [5, -6], ([2], [5, 6])),
    # with two operands
    ("-:table:fold", [2], [5, 3], ([], [2])),
    ("-:table:fold", [2, 2], [1, 2, 10, 20], ([2, 2], [-9, -19, -8, -18])),
    ("-:table:swap:fold", [2, 2], [1, 2, 10, 20], ([2, 2], [9, 8, 19, 18])),
    ("-:table:swap", [3], [1, 2, 3], ([3, 3], [0, -1, -2, 1, 0, -1, 2, 1, 0])),
    ("-:table:fold", [3, 2], [1, 2, 10, 20, 0, 100],
     ([2, 2, 2], [-9, -109, -19, -119, -8, -108, -18, -118])),
    ("-:table:swap:fold", [3, 2], [1, 2, 10, 20, 0, 100],
     ([2, 2, 2], [-9, -8, -19, -18, 91, 92, 81, 82])),
    ("Same:table:swap", [3], [1, 2, 1], ([3, 3], [1, 0, 1, 0, 1, 0, 1, 0, 1])),
    ("Join:table:swap", [2], [1, 2], ([2, 2, 2], [1, 1, 1, 2, 2, 1, 2, 2])),
    ("Join:table:swap", [], [5], ([2], [5, 5])),
    ("Reshape:table:swap", [2], [2, 2], ([2, 2, 2], [2] * 8)),
    ("Reshape:table:swap", [2], [1, 2], SHAPE),
    ("+:table:swap", [32], [1] * 32, ([32, 32], [2] * 1024)),
    # x's shape and then y's is no shape: ahead of any working
    ("+:table:swap", [33], [1] * 33, SIZE),
    ("Div:table:swap", [33], [0] * 33, SIZE),
    ("+:table:swap", [1, 1, 1], [1], SIZE),
    ("+:table:swap", [0, 33], [], SIZE),
    ("+:table:swap", [0, 0, 0], [], SIZE),
    ("Div:table:swap", [2], [1, 0], ZERO),
    # SIZE at the gathering: behind SHAPE, and behind a refusal of the working
    ("Reshape:table:swap", [32], [2] * 32, SIZE),
    ("Reshape:table:swap", [32], [2] * 31 + [-1], DOMAIN),
    ("Reshape:table:swap", [32], [2] * 31 + [3], SHAPE),
    ("Join:table:swap", [1, 1], [5], ([1, 1, 1, 1, 2], [5, 5])),
    ("Join:table:swap:fold", [3, 1, 1], [5, 6, 7], SIZE),
)

FOLD = (
    ("-:fold", [1, 3], [1, 2, 3], ([3], [1, 2, 3])),
    ("-:fold", [3, 2], [10, 20, 1, 2, 3, 4], ([2], [6, 14])),
    ("-:fold", [2, 2, 2], [10, 20, 30, 40, 1, 2, 3, 4], ([2, 2], [9, 18, 27, 36])),
    ("-:swap:fold", [3], [10, 3, 2], ([], [9])),
    ("-:swap:swap:fold", [3], [10, 3, 2], ([], [5])),
    ("+:fold", [1024], counted([1024]), ([], [523776])),
    ("+:fold", [3], [BIGGEST, 1, -1], BIG),
    ("+:fold", [3], [BIGGEST, -1, 1], ([], [BIGGEST])),
    ("Div:fold", [3], [7, 0, 2], ZERO),
    ("+:fold:fold", [2, 2], [1, 2, 10, 20], ([2], [31, 32])),
    # with two operands: beginning with x
    ("-:fold:fold", [2, 2], [10, 20, 1, 2], ([2], [7, 17])),
    ("-:fold:swap", [3], [10, 3, 2], ([3], [-5, -12, -13])),
    ("-:fold:swap", [], [5], ([], [0])),
    # with two operands and no cells: x
    ("Max:fold:swap", [0], [], ([0], [])),
    ("Max:fold:swap", [0, 3], [], ([0, 3], [])),
    ("Max:fold:fold", [2, 0], [], ([0], [])),
    ("Max:fold:fold", [2, 0, 3], [], ([0, 3], [])),
)

SCAN = (
    ("-:scan", [3, 2], [10, 20, 1, 2, 3, 4], ([3, 2], [10, 20, 9, 18, 6, 14])),
    ("-:scan", [1, 3], [1, 2, 3], ([1, 3], [1, 2, 3])),
    ("-:swap:scan", [3], [10, 3, 2], ([3], [10, -7, 9])),
    ("Max:scan", [5], [1, 3, 2, 5, 4], ([5], [1, 3, 3, 5, 5])),
    ("Rotate:scan", [3], [1, 2, 3], ([3], [1, 2, 3])),
    ("+:scan", [1024], [1] * 1024, ([1024], [number + 1 for number in counted([1024])])),
    ("+:scan", [3], [BIGGEST, 1, -1], BIG),
    # what comes out has unlike shapes; the first refusal of the working is ahead of that
    ("Join:scan", [2], [1, 2], SHAPE),
    ("Join:scan", [3], [1, 2, 3], SHAPE),
    ("Same:scan", [2, 2], [1, 2, 1, 2], SHAPE),
    ("Reshape:scan", [3], [3, 7, 5], SHAPE),
    ("Reshape:scan", [3], [3, 11, 5], SIZE),
    ("Reshape:scan", [3], [3, -1, 5], DOMAIN),
    ("Take:scan", [3], [2, 7, 5], SHAPE),
    ("Find:scan", [2], [1, 2], RANK),
    # with two operands
    ("-:scan:fold", [2, 2], [100, 200, 1, 2], ([2, 2], [99, 199, 97, 197])),
    ("-:scan:swap", [2], [10, 3], ([2, 2], [0, -7, -3, -10])),
    ("-:scan:swap", [], [5], ([1], [0])),
    ("-:swap:scan:swap", [2], [10, 3], ([2, 2], [0, 7, 3, -4])),
    ("Join:scan:swap", [2], [1, 2], SHAPE),
    ("Join:scan:swap", [1], [1], ([1, 2], [1, 1])),
    # with two operands and no cells: y
    ("-:scan:swap", [0], [], ([0], [])),
    ("-:scan:swap", [0, 2], [], ([0, 2], [])),
    ("Join:scan:fold", [3, 0], [], ([0], [])),
    # SIZE at the gathering
    ("+:scan:swap", [32], [1] * 32, ([32, 32], [row + 2 for row in range(32) for column in range(32)])),
    ("+:scan:swap", [33], [1] * 33, SIZE),
    ("+:scan:swap", [1, 1, 1, 1, 1], [1], SIZE),
    ("Join:scan:swap", [33], [1] * 33, SHAPE),
    ("Div:scan:swap", [33], [1] * 32 + [0], ZERO),
)

SWAP = (
    ("-:swap", [], [4], ([], [0])),
    ("*:swap", [3], [1, -2, 3], ([3], [1, 4, 9])),
    ("*:swap", [2, 0], [], ([2, 0], [])),
    ("-:swap:swap", [2], [4, 5], ([2], [0, 0])),
    ("Join:swap:swap", [2], [4, 5], ([4], [4, 5, 4, 5])),
    ("Join:swap:swap:swap", [], [4], ([2], [4, 4])),
    ("*:swap", [], [BIGGEST], BIG),
    ("Div:swap", [2], [4, 0], ZERO),
    ("Div:swap", [2], [4, -5], ([2], [1, 1])),
    ("And:swap", [2], [1, 2], DOMAIN),
    ("-:fold:swap:swap", [3], [10, 3, 2], ([3], [-5, -12, -13])),
    ("-:swap:fold:swap", [3], [10, 3, 2], ([3], [-1, 6, 7])),
)


class ModifiersTest(OneTest):
    def test_the_documents_ends(self):
        self.expect_rows(ENDS)

    def test_at(self):
        self.expect_rows(AT)
        self.expect_rows(AT_OF_TWO)

    def test_at_each_rank(self):
        for shape in ([], [4], [3, 4], [2, 3, 4], FIVE, [2, 0, 3], [0], [3, 0]):
            for rank in range(6):
                inner = min(rank, len(shape))
                frame = shape[:len(shape) - inner]
                cell = shape[len(shape) - inner:]
                count = len(counted(frame))
                data = counted(shape)
                cells_in_cell = cell[0] if cell else 1
                self.expect_one(f"Count:at {rank}", shape, data, (frame, [cells_in_cell] * count))
                self.expect_one(f"-:at {rank}", shape, data, (shape, [-number for number in data]))
                if len(frame) < 5:
                    self.expect_one(f"Shape:at {rank}", shape, data, (frame + [inner], cell * count))
                    self.expect_one(f"Ravel:at {rank}", shape, data, (frame + [len(counted(cell))], data))

    def test_a_scalar_at_each_rank(self):
        for modifier in MODIFIERS:
            if modifier.startswith(":at") or modifier == ":table":
                self.expect_one("Ravel" + modifier, [], [7], ([1], [7]))
                self.expect_one("Grade" + modifier, [], [7], RANK)
                self.expect_one("Join:swap" + modifier, [], [7], ([2], [7, 7]))

    def test_frames_without_cells(self):
        self.expect_rows(WITHOUT_CELLS)

    def test_cells_without_elements(self):
        self.expect_rows(WITHOUT_ELEMENTS)

    def test_gathering(self):
        self.expect_rows(GATHERING)

    def test_table(self):
        self.expect_rows(TABLE)

    def test_fold(self):
        self.expect_rows(FOLD)

    def test_fold_of_one_cell(self):
        for base in TWOS:
            for behind in ("", ":swap", ":at 0", ":table", ":fold", ":scan"):
                fold = base + behind + ":fold"
                self.expect_one(fold, [], [5], ([], [5]))
                self.expect_one(fold, [1], [5], ([], [5]))
                self.expect_one(fold, [1, 2], [5, 6], ([2], [5, 6]))
                self.expect_one(fold, [1, 0], [], ([0], []))

    def test_fold_of_no_cells(self):
        begins = {"+": 0, "Or": 0, "*": 1, "And": 1}
        for base in TWOS:
            for cell in ([], [2], [2, 3], [1024], [2, 2, 2, 2], [0], [3, 0]):
                answer = EMPTY
                if base in begins:
                    answer = (cell, [begins[base]] * len(counted(cell)))
                self.expect_one(base + ":fold", [0] + cell, [], answer)
                for behind in MODIFIERS:
                    self.expect_one(base + behind + ":fold", [0] + cell, [], EMPTY)

    def test_scan(self):
        self.expect_rows(SCAN)

    def test_scan_of_one_cell_and_of_none(self):
        for base in TWOS:
            for behind in ("", ":swap", ":at 0", ":table", ":fold", ":scan"):
                scan = base + behind + ":scan"
                self.expect_one(scan, [], [5], ([1], [5]))
                self.expect_one(scan, [1], [5], ([1], [5]))
                self.expect_one(scan, [1, 2], [5, 6], ([1, 2], [5, 6]))
                for shape in ([0], [0, 2], [0, 0], [0, 1024], [0, 2, 0, 3, 1]):
                    self.expect_one(scan, shape, [], (shape, []))

    def test_swap(self):
        self.expect_rows(SWAP)

    def test_modifiers_that_make_no_use(self):
        for base in BASES:
            if base in TWOS:
                continue
            for modifier in (":fold", ":scan", ":swap"):
                self.expect_one(base + modifier, [0], [], USE)
                self.expect_one(base + ":at 0" + modifier, [2], [1, 2], USE)

    def test_eight_modifiers(self):
        self.expect_one("-" + ":swap" * 7 + ":fold", [3], [10, 3, 2], ([], [9]))
        self.expect_one("-" + ":swap" * 6 + ":fold:at 5", [3], [10, 3, 2], ([], [5]))
        self.expect_one("Turn" + ":at 1" * 8, [2, 2], [1, 2, 3, 4], ([2, 2], [2, 1, 4, 3]))
        self.expect_one("Max" + ":fold" * 8, [2, 2], [1, 4, 3, 2], ([2], [3, 4]))
        self.expect_one("Join" + ":at 0" * 7 + ":fold", [2, 2], [1, 2, 3, 4], ([2, 2], [1, 3, 2, 4]))


if __name__ == "__main__":
    unittest.main()
