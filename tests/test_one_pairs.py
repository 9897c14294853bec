"""one: each base function of two operands, as far as it's reached by :fold, :scan, :swap, :table and :at.

A fold of two cells is the first one F the second; "F:swap:fold" of them is the second one F the first. In "F:fold:fold"
of two cells a and b it's a F b's first cell, and so on; in "F:fold:fold:fold" a F each element of b.
"""

import unittest

from calls import BIG, BIGGEST, DOMAIN, INDEX, RANK, SHAPE, SIZE, ZERO, OneTest, counted
from numbers_of_two import NUMBERS, REFUSED

FIVE = [1, 2, 3, 2, 1]

AGREEING = (
    # the same shape
    ("-:fold", [2, 3], [10, 20, 30, 1, 2, 3], ([3], [9, 18, 27])),
    ("-:fold", [2, 2, 2], [10, 20, 30, 40, 1, 2, 3, 4], ([2, 2], [9, 18, 27, 36])),
    ("-:fold", [2, 0], [], ([0], [])),
    ("-:fold", [2, 0, 3], [], ([0, 3], [])),
    ("+:swap", FIVE, counted(FIVE), (FIVE, [2 * number for number in counted(FIVE)])),
    # the right one's is the beginning, then the left one's
    ("-:fold:fold", [2, 2, 2], [1, 2, 3, 4, 10, 20, 30, 40], ([2, 2], [-39, -38, -57, -56])),
    ("-:swap:fold:fold", [2, 2, 2], [1, 2, 3, 4, 10, 20, 30, 40], ([2, 2], [21, 22, 23, 24])),
    ("-:fold:fold", [2, 1, 1], [5, 3], ([1, 1], [2])),
    ("-:fold:fold", [2, 2, 2, 2], [1, 2, 3, 4, 5, 6, 7, 8, 10, 20, 30, 40, 0, 0, 0, 0],
     ([2, 2, 2], [-9, -8, -17, -16, -25, -24, -33, -32])),
    # the empty one is the beginning of every one
    ("-:fold:fold", [2, 3], [10, 20, 30, 1, 2, 3], ([3], [4, 14, 24])),
    ("-:swap:fold:fold", [2, 2], [10, 20, 1, 2], ([2], [11, 21])),
    ("-:fold:fold:fold", [2, 2, 2], [10, 20, 30, 40, 1, 2, 3, 4], ([2, 2], [0, 10, 20, 30])),
    ("-:fold:swap", [3], [10, 3, 2], ([3], [-5, -12, -13])),
    # neither is the beginning of the other
    ("-:fold:fold", [2, 2, 3], counted([2, 2, 3]), SHAPE),
    ("-:swap:fold:fold", [2, 2, 3], counted([2, 2, 3]), SHAPE),
    ("-:fold:fold", [2, 1, 3], counted([2, 1, 3]), SHAPE),
    ("-:fold:fold", [2, 2, 2, 3], counted([2, 2, 2, 3]), SHAPE),
    ("-:fold:fold", [2, 2, 2, 1], counted([2, 2, 2, 1]), SHAPE),
    ("-:fold:fold", [2, 3, 2], counted([2, 3, 2]), SHAPE),
    ("-:fold:fold", [2, 2, 0], [], SHAPE),
    # SHAPE ahead of what the numbers would be refused with
    ("Div:fold:fold", [2, 1, 3], [0] * 6, SHAPE),
    ("And:fold:fold", [2, 1, 3], [5] * 6, SHAPE),
    # a refusal anywhere among the elements
    ("Div:fold", [2, 3], [1, 2, 3, 1, 1, 0], ZERO),
    ("Div:fold", [2, 3], [1, 2, 3, 0, 1, 1], ZERO),
    ("+:fold", [2, 2], [1, BIGGEST, 1, 1], BIG),
    ("Or:fold", [2, 2], [0, 1, 1, 2], DOMAIN),
)

RESHAPE = (
    ("Reshape:fold", [2], [3, 7], ([3], [7, 7, 7])),
    ("Reshape:fold", [2], [0, 7], ([0], [])),
    ("Reshape:fold", [2], [1, 7], ([1], [7])),
    ("Reshape:fold", [2], [1024, 7], ([1024], [7] * 1024)),
    ("Reshape:fold", [2, 1], [3, 7], ([3], [7, 7, 7])),
    ("Reshape:fold", [2, 2], [2, 3, 8, 9], ([2, 3], [8, 9, 8, 9, 8, 9])),
    ("Reshape:fold", [2, 2], [1, 1, 8, 9], ([1, 1], [8])),
    ("Reshape:fold", [2, 2], [0, 1024, 8, 9], ([0, 1024], [])),
    ("Reshape:fold", [2, 5], FIVE + [1, 2, 3, 4, 5], (FIVE, [1, 2, 3, 4, 5, 1, 2, 3, 4, 5, 1, 2])),
    ("Reshape:swap:fold", [3], [7, 2, 3], ([3], [7, 7, 7])),
    ("Reshape:swap:fold", [3, 2], [1, 2, 2, 3, 3, 3], ([3, 3], [1, 2, 1, 2, 1, 2, 1, 2, 1])),
    ("Reshape:swap", [], [4], ([4], [4, 4, 4, 4])),
    ("Reshape:swap", [2], [2, 3], ([2, 3], [2, 3, 2, 3, 2, 3])),
    # y has no elements
    ("Reshape:swap:fold", [3], [7, 0, 3], ([3], [0, 0, 0])),
    ("Reshape:swap", [0], [], ([], [0])),
    ("Reshape:fold", [2, 0], [], ([], [0])),
    ("Reshape:swap:fold", [3, 2], [1, 2, 2, 0, 1, 3], ([1, 3], [0, 0, 0])),
    ("Reshape:swap:fold", [3], [7, 0, 0], ([0], [])),
    ("Reshape:fold", [2], [1025, 7], SIZE),
    ("Reshape:fold", [2], [BIGGEST, 7], SIZE),
    ("Reshape:fold", [2, 2], [33, 32, 7, 7], SIZE),
    ("Reshape:fold", [2, 2], [0, 1025, 7, 7], SIZE),
    ("Reshape:fold", [2, 6], [1] * 12, SIZE),
    ("Reshape:fold", [2, 6], [0] * 12, SIZE),
    ("Reshape:fold", [2], [-1, 7], DOMAIN),
    ("Reshape:fold", [2, 2], [5000, -1, 7, 7], DOMAIN),
    ("Reshape:fold", [2, 6], [1, 1, 1, 1, 1, -1] * 2, DOMAIN),
    ("Reshape:fold", [2, 1, 1], [1, 7], RANK),
    ("Reshape:fold", [2, 1, 1], [-1, 7], RANK),
    ("Reshape:fold", [2, 1, 1], [5000, 7], RANK),
    ("Reshape:swap", [1, 0], [], RANK),
)

TAKE = (
    ("Take:fold", [2], [2, 7], ([2], [7, 0])),
    ("Take:fold", [2], [-2, 7], ([2], [0, 7])),
    ("Take:fold", [2], [1, 7], ([1], [7])),
    ("Take:fold", [2], [-1, 7], ([1], [7])),
    ("Take:fold", [2], [0, 7], ([0], [])),
    ("Take:fold", [2], [1024, 7], ([1024], [7] + [0] * 1023)),
    ("Take:fold", [2], [-1024, 7], ([1024], [0] * 1023 + [7])),
    ("Take:fold", [2, 1], [3, 9], ([3], [9, 0, 0])),
    ("Take:fold", [3], [1, 3, 5], ([3], [5, 0, 0])),
    ("Take:swap:fold:fold", [2, 3], [1, 2, 3, 2, 2, 2], ([2], [1, 2])),
    ("Take:swap:fold:fold", [2, 3], [1, 2, 3, -2, -2, -2], ([2], [2, 3])),
    ("Take:swap:fold:fold", [2, 3], [1, 2, 3, 3, 3, -3], ([3], [1, 2, 3])),
    ("Take:swap:fold:fold", [2, 3], [1, 2, 3, 5, -6, -6], ([6], [0, 1, 2, 3, 0, 0])),
    ("Take:swap:fold:fold", [2, 3], [1, 2, 3, 0, 2, 2], ([2], [0, 0])),
    ("Take:swap:fold:fold", [2, 3], [1, 2, 3, 0, -2, -2], ([2], [0, 0])),
    ("Take:swap:fold:fold", [2, 2, 1], [1, 2, -3, 2], ([2, 1], [0, 1])),
    ("Take:swap:fold:fold:fold", [2, 2, 2], [1, 2, 3, 4, 3, -4, -3, -2], ([2, 2], [3, 4, 0, 0])),
    ("Take:swap:fold:fold:fold", [2, 2, 2], [1, 2, 3, 4, 0, 3, 3, 3], ([3, 2], [0, 0, 0, 0, 0, 0])),
    ("Take:swap:fold:fold:fold", [2, 2, 2], [1, 2, 3, 4, 1, 1, 1, 0], ([0, 2], [])),
    ("Take:swap:fold:fold:fold", [2, 2, 2], [1, 2, 3, 4, 512, 2, 2, -1], ([1, 2], [3, 4])),
    ("Take:fold", [2], [1025, 7], SIZE),
    ("Take:fold", [2], [-1025, 7], SIZE),
    ("Take:fold", [2], [BIGGEST, 7], SIZE),
    ("Take:fold", [2], [-BIGGEST, 7], SIZE),
    ("Take:swap:fold:fold:fold", [2, 2, 2], [1, 2, 3, 4, 513, 2, 2, 2], SIZE),
    ("Take:swap:fold:fold:fold", [2, 2, 2], [1, 2, 3, 4, -513, 2, 2, 2], SIZE),
    ("Take:fold", [2, 2], [1, 1, 1, 1], SHAPE),
    ("Take:fold", [2, 2], [5000, 1, 1, 1], SHAPE),
    ("Take:fold", [2, 0], [], SHAPE),
    ("Take:fold", [3], [2, 7, 5], SHAPE),
    ("Take:fold", [3], [0, 7, 5], SHAPE),
    ("Take:fold", [2, 1, 1], [1, 7], RANK),
    ("Take:fold", [2, 2, 2], counted([2, 2, 2]), RANK),
    ("Take:fold", [2, 0, 0], [], RANK),
)

DROP = (
    ("Drop:fold", [2], [0, 7], ([1], [7])),
    ("Drop:fold", [2], [1, 7], ([0], [])),
    ("Drop:fold", [2], [-1, 7], ([0], [])),
    ("Drop:fold", [2], [BIGGEST, 7], ([0], [])),
    ("Drop:fold", [2], [-BIGGEST, 7], ([0], [])),
    ("Drop:fold", [2, 1], [0, 9], ([1], [9])),
    ("Drop:swap:fold:fold", [2, 3], [1, 2, 3, 1, 0, 0], ([2], [2, 3])),
    ("Drop:swap:fold:fold", [2, 3], [1, 2, 3, -1, 0, 0], ([2], [1, 2])),
    ("Drop:swap:fold:fold", [2, 3], [1, 2, 3, 1, -1, 0], ([1], [2])),
    ("Drop:swap:fold:fold", [2, 3], [1, 2, 3, 0, 0, 0], ([3], [1, 2, 3])),
    ("Drop:swap:fold:fold", [2, 3], [1, 2, 3, 3, 0, 0], ([0], [])),
    ("Drop:swap:fold:fold", [2, 3], [1, 2, 3, 4, 1, -1], ([0], [])),
    ("Drop:swap:fold:fold:fold", [2, 2, 2], [1, 2, 3, 4, 1, 0, 0, 0], ([1, 2], [3, 4])),
    ("Drop:swap:fold:fold:fold", [2, 2, 2], [1, 2, 3, 4, -1, 0, 0, 0], ([1, 2], [1, 2])),
    ("Drop:swap:fold:fold:fold", [2, 2, 2], [1, 2, 3, 4, 2, 0, 0, 0], ([0, 2], [])),
    ("Drop:swap:fold:fold:fold", [2, 2, 2], [1, 2, 3, 4, -3, 1, -1, 0], ([0, 2], [])),
    ("Drop:fold", [2, 2], [1, 1, 1, 1], SHAPE),
    ("Drop:fold", [2, 0], [], SHAPE),
    ("Drop:fold", [2, 1, 1], [1, 7], RANK),
    ("Drop:fold", [2, 0, 0], [], RANK),
)

ROTATE = (
    ("Rotate:fold", [2], [5, 7], ([], [7])),
    ("Rotate:fold", [2, 1], [5, 7], ([1], [7])),
    ("Rotate:swap:fold:fold", [2, 3], [1, 2, 3, 1, 0, 0], ([3], [2, 3, 1])),
    ("Rotate:swap:fold:fold", [2, 3], [1, 2, 3, -1, 0, 0], ([3], [3, 1, 2])),
    ("Rotate:swap:fold:fold", [2, 3], [1, 2, 3, 3, 0, -3], ([3], [1, 2, 3])),
    ("Rotate:swap:fold:fold", [2, 3], [1, 2, 3, 4, 4, 0], ([3], [3, 1, 2])),
    ("Rotate:swap:fold:fold", [2, 3], [1, 2, 3, BIGGEST, 0, 0], ([3], [2, 3, 1])),
    ("Rotate:swap:fold:fold", [2, 3], [1, 2, 3, -BIGGEST, 0, 0], ([3], [3, 1, 2])),
    ("Rotate:swap:fold:fold", [2, 3, 1], [1, 2, 3, 1, 0, 0], ([3, 1], [2, 3, 1])),
    ("Rotate:swap:fold:fold:fold", [2, 3, 2], [1, 2, 3, 4, 5, 6, 1, 0, 0, 0, 0, 0], ([3, 2], [3, 4, 5, 6, 1, 2])),
    ("Rotate:swap:fold:fold:fold", [2, 3, 2], [1, 2, 3, 4, 5, 6, 0, -1, 0, 0, 0, 0], ([3, 2], [5, 6, 1, 2, 3, 4])),
    ("Rotate:fold", [2, 2], [1, 1, 1, 1], SHAPE),
    ("Rotate:fold", [2, 0], [], SHAPE),
    ("Rotate:fold", [2, 1, 1], [1, 7], RANK),
    # x is looked at also where y is a scalar
    ("Rotate:fold:swap", [1], [5], ([], [5])),
    ("Rotate:fold:swap", [2], [1, 2], SHAPE),
    ("Rotate:fold:fold", [2, 2], [1, 2, 3, 4], SHAPE),
    ("Rotate:fold:fold:fold", [2, 1, 1], [1, 2], RANK),
)

JOIN = (
    ("Join:fold", [2], [1, 2], ([2], [1, 2])),
    ("Join:fold", [3], [1, 2, 3], ([3], [1, 2, 3])),
    ("Join:swap:fold", [3], [1, 2, 3], ([3], [3, 2, 1])),
    ("Join:fold", [2, 2], [1, 2, 3, 4], ([4], [1, 2, 3, 4])),
    ("Join:fold", [2, 1], [1, 2], ([2], [1, 2])),
    ("Join:fold", [2, 0], [], ([0], [])),
    ("Join:fold", [2, 2, 2], [0, 1, 2, 3, 4, 5, 6, 7], ([4, 2], [0, 1, 2, 3, 4, 5, 6, 7])),
    ("Join:swap:fold", [2, 2, 2], [0, 1, 2, 3, 4, 5, 6, 7], ([4, 2], [4, 5, 6, 7, 0, 1, 2, 3])),
    ("Join:fold", [2, 2, 0], [], ([4, 0], [])),
    ("Join:fold", [2, 0, 2], [], ([0, 2], [])),
    ("Join:swap", [], [5], ([2], [5, 5])),
    ("Join:swap", [1], [5], ([2], [5, 5])),
    ("Join:swap", [1, 1, 1, 1, 2], [5, 6], ([2, 1, 1, 1, 2], [5, 6, 5, 6])),
    # a scalar beside an array: each element of its cell is it
    ("Join:fold:fold", [2, 2], [1, 2, 3, 4], ([4], [1, 2, 3, 4])),
    ("Join:swap:fold:fold", [2, 2], [1, 2, 3, 4], ([4], [4, 3, 1, 2])),
    ("Join:fold:fold:fold", [2, 2, 2], [1, 2, 3, 4, 5, 6, 7, 8], ([6, 2], [1, 2, 3, 4, 5, 5, 6, 6, 7, 7, 8, 8])),
    ("Join:swap:fold:fold:fold", [2, 2, 2], [1, 2, 3, 4, 5, 6, 7, 8], ([6, 2], [8, 8, 7, 7, 6, 6, 5, 5, 1, 2, 3, 4])),
    # an array of a rank that's one less
    ("Join:fold:fold", [2, 2, 2], [1, 2, 3, 4, 5, 6, 7, 8], ([4, 2], [1, 2, 3, 4, 5, 6, 7, 8])),
    ("Join:swap:fold:fold", [2, 2, 2], [1, 2, 3, 4, 5, 6, 7, 8], ([4, 2], [7, 8, 5, 6, 1, 2, 3, 4])),
    ("Join:fold:fold", [2, 2, 0], [], ([4, 0], [])),
    # ranks that are further apart
    ("Join:fold:fold:fold", [2, 1, 1, 2], [1, 2, 3, 4], SHAPE),
    ("Join:swap:fold:fold:fold", [2, 1, 1, 2], [1, 2, 3, 4], SHAPE),
    # the answers grow beyond what a shape may be
    ("Join:swap", [512, 2], counted([512, 2]), SIZE),
    ("Join:swap", [513], counted([513]), SIZE),
    ("Join:swap", [1024, 0], [], SIZE),
    ("Join:swap", [2, 0, 300], [], SIZE),
    ("Join:swap", [512], counted([512]), ([1024], counted([512]) * 2)),
    ("Join:swap", [512, 0], [], ([1024, 0], [])),
)

PICK = (
    ("Pick:fold", [2, 3], [2, 0, 1, 7, 8, 9], ([3], [9, 7, 8])),
    ("Pick:swap:fold", [2, 3], [7, 8, 9, 2, 2, 0], ([3], [9, 9, 7])),
    ("Pick:fold", [2, 1], [0, 7], ([1], [7])),
    ("Pick:swap", [3], [1, 2, 0], ([3], [2, 0, 1])),
    ("Pick:fold", [2, 2, 2], [0, 1, 1, 0, 5, 6, 7, 8], ([2, 2, 2], [5, 6, 7, 8, 7, 8, 5, 6])),
    ("Pick:fold", [2, 2, 1, 2], [0, 1, 1, 1, 5, 6, 7, 8], ([2, 1, 2, 1, 2], [5, 6, 7, 8, 7, 8, 7, 8])),
    ("Pick:fold", [2, 3, 1], [2, 0, 1, 7, 8, 9], ([3, 1, 1], [9, 7, 8])),
    ("Pick:fold", [2, 1, 3], [0, 0, 1, 7, 8, 9], INDEX),
    ("Pick:fold", [2, 0], [], ([0], [])),
    ("Pick:fold", [2, 0, 3], [], ([0, 3, 3], [])),
    ("Pick:fold", [2, 3, 0], [], ([3, 0, 0], [])),
    # a scalar tells one cell
    ("Pick:swap:fold:fold", [2, 1], [7, 0], ([], [7])),
    ("Pick:swap:fold:fold:fold", [2, 1, 1], [7, 0], ([1], [7])),
    ("Pick:fold", [2, 3], [0, 1, 3, 7, 8, 9], INDEX),
    ("Pick:fold", [2, 3], [0, -1, 0, 7, 8, 9], INDEX),
    ("Pick:fold", [2, 3], [BIGGEST, 0, 0, 7, 8, 9], INDEX),
    ("Pick:fold", [2, 1], [1, 7], INDEX),
    ("Pick:fold", [2, 1, 1, 1, 1], [0, 7], SIZE),
    ("Pick:fold", [2, 1, 1, 1, 1], [1, 7], INDEX),
    ("Pick:fold", [2, 11, 10], [0] * 220, SIZE),
    ("Pick:fold", [2, 11, 9], [0] * 198, ([11, 9, 9], [0] * 891)),
    ("Pick:fold", [2, 0, 33], [], SIZE),
    ("Pick:fold", [2], [0, 7], RANK),
    ("Pick:fold", [2], [5, 7], RANK),
    ("Pick:swap", [], [0], RANK),
    ("Pick:swap:fold:fold", [2, 2], [5, 6, 1, 0], RANK),
)

FIND = (
    ("Find:fold", [2, 3], [5, 6, 5, 6, 5, 9], ([3], [1, 0, 3])),
    ("Find:swap:fold", [2, 3], [6, 5, 9, 5, 6, 5], ([3], [1, 0, 3])),
    ("Find:swap", [4], [5, 6, 5, 6], ([4], [0, 1, 0, 1])),
    ("Find:fold", [2, 2, 2], [1, 2, 3, 4, 3, 4, 1, 2], ([2], [1, 0])),
    ("Find:fold", [2, 2, 2], [1, 2, 3, 4, 2, 1, 3, 5], ([2], [2, 2])),
    ("Find:fold", [2, 2, 1], [5, 6, 7, 6], ([2], [2, 1])),
    ("Find:fold", [2, 1, 3], [5, 6, 7, 6, 5, 7], ([1], [1])),
    ("Find:swap", [2, 1, 1, 1, 2], [1, 2, 1, 2], ([2], [0, 0])),
    ("Find:fold", [2, 0], [], ([0], [])),
    ("Find:fold", [2, 0, 3], [], ([0], [])),
    # cells without elements are the same
    ("Find:fold", [2, 3, 0], [], ([3], [0, 0, 0])),
    # y of another rank: numbers looked for in a table of them, a row in a table of rows
    ("Find:fold", [3, 2, 2], [1, 2, 3, 4, 3, 4, 1, 2, 0, 1, 7, 1], ([2, 2], [1, 0, 2, 0])),
    ("Find:swap:fold", [3, 2, 2], [1, 2, 3, 4, 3, 4, 1, 2, 1, 0, 9, 9], ([], [0])),
    ("Find:swap:fold", [3, 2, 2], [1, 2, 3, 4, 3, 4, 1, 2, 9, 9, 1, 0], ([], [1])),
    ("Find:swap:fold", [3, 2, 2], [1, 2, 3, 4, 3, 4, 1, 2, 9, 9, 9, 9], ([], [2])),
    ("Find:fold:fold", [2, 3], [5, 6, 7, 7, 9, 9], RANK),
    ("Find:fold:fold", [2, 1], [5, 5], ([], [0])),
    ("Find:fold:fold", [2, 1], [5, 6], ([], [1])),
    ("Find:swap:fold", [4, 2, 2], [1, 2, 3, 4, 3, 4, 1, 2, 1, 0, 9, 9, 0, 0, 0, 0], SHAPE),
    ("Find:swap:fold", [3, 3, 2], counted([3, 3, 2]), SHAPE),
    ("Find:fold:fold", [2, 1, 1, 1], [5, 5], ([], [0])),
    ("Find:fold:fold:fold", [2, 1, 1, 1], [5, 5], SHAPE),
    ("Find:fold", [2], [5, 5], RANK),
    ("Find:swap", [], [5], RANK),
)

SAME = (
    ("Same:fold", [2], [3, 3], ([], [1])),
    ("Same:fold", [2], [3, 4], ([], [0])),
    ("Same:fold", [2, 2], [1, 2, 1, 2], ([], [1])),
    ("Same:fold", [2, 2], [1, 2, 2, 1], ([], [0])),
    ("Same:fold", [2, 0], [], ([], [1])),
    ("Same:fold", [2, 3, 0], [], ([], [1])),
    ("Same:swap", FIVE, counted(FIVE), ([], [1])),
    ("Same:swap", [0, 3], [], ([], [1])),
    # a scalar isn't the same as the vector of it
    ("Same:fold", [3], [1, 1, 1], ([], [1])),
    ("Same:fold", [3, 1], [1, 1, 1], ([], [0])),
    ("Same:fold:swap", [1], [1], ([], [0])),
)

KEEP = (
    ("Keep:fold", [2], [3, 7], ([3], [7, 7, 7])),
    ("Keep:fold", [2], [1, 7], ([1], [7])),
    ("Keep:fold", [2], [0, 7], ([0], [])),
    ("Keep:fold", [2], [1024, 7], ([1024], [7] * 1024)),
    ("Keep:fold", [2, 1], [3, 7], ([3], [7, 7, 7])),
    ("Keep:fold", [2, 3], [2, 0, 1, 7, 8, 9], ([3], [7, 7, 9])),
    ("Keep:swap:fold", [2, 3], [7, 8, 9, 0, 1, 2], ([3], [8, 9, 9])),
    ("Keep:fold", [2, 3], [0, 0, 0, 7, 8, 9], ([0], [])),
    ("Keep:fold", [2, 0], [], ([0], [])),
    ("Keep:fold", [3], [1, 5, 9], ([5], [9, 9, 9, 9, 9])),
    ("Keep:swap:fold:fold", [2, 2], [5, 6, 2, 1], ([4], [5, 5, 6, 6])),
    ("Keep:swap:fold:fold", [2, 2, 2], [1, 2, 3, 4, 1, 1, 0, 2], ([2, 2], [3, 4, 3, 4])),
    ("Keep:swap:fold:fold", [2, 1, 2], [1, 2, 3, 4], SHAPE),
    ("Keep:swap:fold:fold:fold", [2, 2, 2], [1, 2, 3, 4, 2, 1, 1, 1], ([4, 2], [1, 2, 1, 2, 3, 4, 3, 4])),
    ("Keep:swap:fold:fold:fold", [2, 2, 2], [1, 2, 3, 4, 1, 0, 1, 1], ([0, 2], [])),
    ("Keep:swap:fold", [3], [7, 0, BIGGEST], ([0], [])),
    ("Keep:fold", [2], [1025, 7], SIZE),
    ("Keep:fold", [2], [BIGGEST, 7], SIZE),
    ("Keep:fold", [2, 3], [1, 1023, 1, 7, 8, 9], SIZE),
    ("Keep:swap:fold:fold:fold", [2, 2, 2], [1, 2, 3, 4, 256, 1, 1, 0], ([0, 2], [])),
    ("Keep:swap:fold:fold:fold", [2, 2, 2], [1, 2, 3, 4, 257, 1, 1, 0], SIZE),
    ("Keep:fold", [2], [-1, 7], DOMAIN),
    ("Keep:fold", [2, 3], [-1, 0, 5000, 7, 8, 9], DOMAIN),
    ("Keep:fold", [2, 3], [5000, 0, -1, 7, 8, 9], DOMAIN),
    ("Keep:swap:fold", [3], [7, 0, -1], DOMAIN),
    ("Keep:fold", [3], [3, 7, 9], SHAPE),
    ("Keep:fold", [3], [3, -7, 9], SHAPE),
    ("Keep:fold", [3], [0, 7, 9], SHAPE),
    ("Keep:fold", [2, 1, 1], [1, 7], RANK),
    ("Keep:fold", [2, 1, 1], [-1, 7], RANK),
    ("Keep:fold", [2, 1, 2], [1, 1, 7, 7], RANK),
)


class PairsTest(OneTest):
    def test_numbers(self):
        for base, rows in NUMBERS:
            for a, b, answer in rows:
                self.expect_one(base + ":fold", [2], [a, b], ([], [answer]))
                self.expect_one(base + ":swap:fold", [2], [b, a], ([], [answer]))

    def test_refused_numbers(self):
        for base, refusal, pairs in REFUSED:
            for a, b in pairs:
                self.expect_one(base + ":fold", [2], [a, b], refusal)
                self.expect_one(base + ":swap:fold", [2], [b, a], refusal)

    def test_agreeing(self):
        self.expect_rows(AGREEING)

    def test_moves(self):
        for rows in (RESHAPE, TAKE, DROP, ROTATE, JOIN, PICK, FIND, SAME, KEEP):
            self.expect_rows(rows)


if __name__ == "__main__":
    unittest.main()
