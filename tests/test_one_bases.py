"""one: each base function of one operand."""

import unittest

from calls import BIGGEST, DOMAIN, RANK, SIZE, OneTest, counted

FIVE = [1, 2, 3, 2, 1]

MOVES = (
    ("Shape", [], [7], ([0], [])),
    ("Shape", [1], [7], ([1], [1])),
    ("Shape", [3], [7, 8, 9], ([1], [3])),
    ("Shape", [2, 3], [1, 2, 3, 4, 5, 6], ([2], [2, 3])),
    ("Shape", FIVE, counted(FIVE), ([5], [1, 2, 3, 2, 1])),
    ("Shape", [0], [], ([1], [0])),
    ("Shape", [2, 0, 3], [], ([3], [2, 0, 3])),
    ("Shape", [0, 1024], [], ([2], [0, 1024])),

    ("Count", [], [7], ([], [1])),
    ("Count", [], [0], ([], [1])),
    ("Count", [3], [7, 8, 9], ([], [3])),
    ("Count", [2, 3], [1, 2, 3, 4, 5, 6], ([], [2])),
    ("Count", FIVE, counted(FIVE), ([], [1])),
    ("Count", [0], [], ([], [0])),
    ("Count", [0, 4], [], ([], [0])),
    ("Count", [4, 0], [], ([], [4])),
    ("Count", [1024, 0], [], ([], [1024])),

    ("Ravel", [], [7], ([1], [7])),
    ("Ravel", [3], [7, 8, 9], ([3], [7, 8, 9])),
    ("Ravel", [2, 3], [1, 2, 3, 4, 5, 6], ([6], [1, 2, 3, 4, 5, 6])),
    ("Ravel", FIVE, counted(FIVE), ([12], counted(FIVE))),
    ("Ravel", [0], [], ([0], [])),
    ("Ravel", [2, 0], [], ([0], [])),
    ("Ravel", [0, 1024], [], ([0], [])),

    ("Iota", [], [3], ([3], [0, 1, 2])),
    ("Iota", [], [0], ([0], [])),
    ("Iota", [1], [3], ([3], [0, 1, 2])),
    ("Iota", [2], [2, 3], ([2, 3], [0, 1, 2, 3, 4, 5])),
    ("Iota", [2], [2, 0], ([2, 0], [])),
    ("Iota", [5], FIVE, (FIVE, counted(FIVE))),
    ("Iota", [5], [0, 0, 0, 0, 0], ([0, 0, 0, 0, 0], [])),
    ("Iota", [0], [], ([], [0])),
    ("Iota", [], [1024], ([1024], counted([1024]))),
    ("Iota", [2], [32, 32], ([32, 32], counted([1024]))),
    ("Iota", [2], [0, 1024], ([0, 1024], [])),
    ("Iota", [2], [1024, 0], ([1024, 0], [])),
    ("Iota", [], [1025], SIZE),
    ("Iota", [], [BIGGEST], SIZE),
    ("Iota", [2], [32, 33], SIZE),
    ("Iota", [2], [0, 1025], SIZE),
    ("Iota", [3], [0, 1024, 2], SIZE),
    ("Iota", [6], [1, 1, 1, 1, 1, 1], SIZE),
    ("Iota", [6], [0, 0, 0, 0, 0, 0], SIZE),
    ("Iota", [1024], [BIGGEST] * 1024, SIZE),
    ("Iota", [], [-1], DOMAIN),
    ("Iota", [], [-BIGGEST], DOMAIN),
    ("Iota", [2], [2, -1], DOMAIN),
    ("Iota", [2], [-1, -1], DOMAIN),
    ("Iota", [2], [5000, -1], DOMAIN),
    ("Iota", [2], [-1, 5000], DOMAIN),
    ("Iota", [6], [1, 1, 1, 1, 1, -1], DOMAIN),
    ("Iota", [1, 1], [2], RANK),
    ("Iota", [1, 1], [-1], RANK),
    ("Iota", [1, 1], [5000], RANK),
    ("Iota", [0, 0], [], RANK),
    ("Iota", FIVE, counted(FIVE), RANK),

    ("Flip", [], [7], ([], [7])),
    ("Flip", [3], [7, 8, 9], ([3], [7, 8, 9])),
    ("Flip", [2, 3], [1, 2, 3, 4, 5, 6], ([3, 2], [1, 4, 2, 5, 3, 6])),
    ("Flip", [3, 1], [1, 2, 3], ([1, 3], [1, 2, 3])),
    ("Flip", [2, 2, 2], [0, 1, 2, 3, 4, 5, 6, 7], ([2, 2, 2], [0, 4, 2, 6, 1, 5, 3, 7])),
    ("Flip", [2, 1, 3], [1, 2, 3, 4, 5, 6], ([3, 1, 2], [1, 4, 2, 5, 3, 6])),
    ("Flip", FIVE, counted(FIVE), (FIVE, [0, 6, 2, 8, 4, 10, 1, 7, 3, 9, 5, 11])),
    ("Flip", [0], [], ([0], [])),
    ("Flip", [2, 0, 3], [], ([3, 0, 2], [])),
    ("Flip", [0, 1024], [], ([1024, 0], [])),

    ("Turn", [], [7], ([], [7])),
    ("Turn", [1], [7], ([1], [7])),
    ("Turn", [3], [7, 8, 9], ([3], [9, 8, 7])),
    ("Turn", [3, 2], [1, 2, 3, 4, 5, 6], ([3, 2], [5, 6, 3, 4, 1, 2])),
    ("Turn", [2, 2, 2], [0, 1, 2, 3, 4, 5, 6, 7], ([2, 2, 2], [4, 5, 6, 7, 0, 1, 2, 3])),
    ("Turn", FIVE, counted(FIVE), (FIVE, counted(FIVE))),
    ("Turn", [2, 1, 1, 1, 2], [1, 2, 3, 4], ([2, 1, 1, 1, 2], [3, 4, 1, 2])),
    ("Turn", [0], [], ([0], [])),
    ("Turn", [0, 2], [], ([0, 2], [])),
    ("Turn", [3, 0], [], ([3, 0], [])),

    ("Grade", [], [7], RANK),
    ("Grade", [1], [7], ([1], [0])),
    ("Grade", [5], [3, 1, 2, 1, 3], ([5], [1, 3, 2, 0, 4])),
    ("Grade", [4], [0, -1, BIGGEST, -BIGGEST], ([4], [3, 1, 0, 2])),
    ("Grade", [4], [10, 9, 100, 1], ([4], [3, 1, 0, 2])),
    ("Grade", [4], [5, 5, 5, 5], ([4], [0, 1, 2, 3])),
    ("Grade", [3, 2], [2, 1, 1, 9, 2, 0], ([3], [1, 2, 0])),
    ("Grade", [4, 2], [1, 1, 0, 5, 1, 1, 0, 5], ([4], [1, 3, 0, 2])),
    ("Grade", [2, 3], [1, 2, 3, 1, 2, -3], ([2], [1, 0])),
    ("Grade", [2, 2, 2], [1, 0, 0, 1, 1, 0, 0, 0], ([2], [1, 0])),
    ("Grade", [2, 1, 1, 1, 2], [3, 4, 3, 1], ([2], [1, 0])),
    ("Grade", [0], [], ([0], [])),
    ("Grade", [0, 3], [], ([0], [])),
    ("Grade", [3, 0], [], ([3], [0, 1, 2])),
    ("Grade", [1024, 0], [], ([1024], counted([1024]))),

    ("Where", [3], [2, 0, 1], ([3], [0, 0, 2])),
    ("Where", [4], [0, 1, 1, 0], ([2], [1, 2])),
    ("Where", [2], [0, 0], ([0], [])),
    ("Where", [0], [], ([0], [])),
    ("Where", [1], [3], ([3], [0, 0, 0])),
    ("Where", [2], [0, 1024], ([1024], [1] * 1024)),
    ("Where", [1024], [1] * 1024, ([1024], counted([1024]))),
    ("Where", [2], [1, 1024], SIZE),
    ("Where", [1], [BIGGEST], SIZE),
    ("Where", [1024], [BIGGEST] * 1024, SIZE),
    ("Where", [1], [-1], DOMAIN),
    ("Where", [3], [1, 1, -1], DOMAIN),
    ("Where", [2], [-1, 5000], DOMAIN),
    ("Where", [2], [5000, -1], DOMAIN),
    ("Where", [2], [-BIGGEST, BIGGEST], DOMAIN),
    ("Where", [], [1], RANK),
    ("Where", [], [-1], RANK),
    ("Where", [], [5000], RANK),
    ("Where", [1, 1], [1], RANK),
    ("Where", [1, 1], [-1], RANK),
    ("Where", [0, 0], [], RANK),
    ("Where", FIVE, counted(FIVE), RANK),

    ("First", [], [7], ([], [7])),
    ("First", [1], [7], ([], [7])),
    ("First", [3], [7, 8, 9], ([], [7])),
    ("First", [2, 3], [1, 2, 3, 4, 5, 6], ([3], [1, 2, 3])),
    ("First", [2, 2, 1, 1, 2], [1, 2, 3, 4, 5, 6, 7, 8], ([2, 1, 1, 2], [1, 2, 3, 4])),
    ("First", [0], [], ([], [0])),
    ("First", [0, 3], [], ([3], [0, 0, 0])),
    ("First", [0, 2, 2], [], ([2, 2], [0, 0, 0, 0])),
    ("First", [0, 1024], [], ([1024], [0] * 1024)),
    ("First", [0, 0], [], ([0], [])),
    ("First", [3, 0], [], ([0], [])),
    ("First", [3, 0, 2], [], ([0, 2], [])),
    ("First", [0, 1, 2, 0, 3], [], ([1, 2, 0, 3], [])),
)

NUMBERS = [0, 1, -1, 7, -7, BIGGEST, -BIGGEST]

SCALARS = (
    ("-", [7], NUMBERS, ([7], [0, -1, 1, -7, 7, -BIGGEST, BIGGEST])),
    ("Abs", [7], NUMBERS, ([7], [0, 1, 1, 7, 7, BIGGEST, BIGGEST])),
    ("Sign", [7], NUMBERS, ([7], [0, 1, -1, 1, -1, 1, -1])),
    ("Not", [2], [0, 1], ([2], [1, 0])),
    ("-", [], [5], ([], [-5])),
    ("Abs", [], [-5], ([], [5])),
    ("Sign", [], [-5], ([], [-1])),
    ("Not", [], [0], ([], [1])),
    ("Not", [], [1], ([], [0])),
    ("-", [2, 2], [1, -2, 3, 0], ([2, 2], [-1, 2, -3, 0])),
    ("Abs", [2, 2], [1, -2, 3, 0], ([2, 2], [1, 2, 3, 0])),
    ("Sign", [2, 2], [1, -2, 3, 0], ([2, 2], [1, -1, 1, 0])),
    ("Not", [2, 2], [1, 0, 0, 1], ([2, 2], [0, 1, 1, 0])),
    ("Not", [], [2], DOMAIN),
    ("Not", [], [-1], DOMAIN),
    ("Not", [], [BIGGEST], DOMAIN),
    ("Not", [3], [2, 1, 0], DOMAIN),
    ("Not", [3], [1, 0, 2], DOMAIN),
    ("Not", [1, 1, 1, 1, 1], [-1], DOMAIN),
)


class BasesTest(OneTest):
    def test_moves(self):
        self.expect_rows(MOVES)

    def test_flip_of_unlike_extents(self):
        data = [i * 12 + j * 4 + k for k in range(4) for j in range(3) for i in range(2)]
        self.expect_one("Flip", [2, 3, 4], counted([2, 3, 4]), ([4, 3, 2], data))

    def test_scalars(self):
        self.expect_rows(SCALARS)

    def test_scalars_of_rank_5_and_of_no_elements(self):
        ones_and_zeros = [1, 0, 0, 1, 1, 0, 1, 0, 0, 0, 1, 1]
        for shape in (FIVE, [12], [3, 4]):
            self.expect_one("-", shape, ones_and_zeros, (shape, [-number for number in ones_and_zeros]))
            self.expect_one("Abs", shape, ones_and_zeros, (shape, ones_and_zeros))
            self.expect_one("Sign", shape, ones_and_zeros, (shape, ones_and_zeros))
            self.expect_one("Not", shape, ones_and_zeros, (shape, [1 - number for number in ones_and_zeros]))
        for shape in ([0], [0, 3], [3, 0], [1024, 0], [2, 0, 1, 0, 2]):
            for base in ("-", "Abs", "Sign", "Not"):
                self.expect_one(base, shape, [], (shape, []))


if __name__ == "__main__":
    unittest.main()
