"""Every end that the document names, with its call."""

import unittest

from calls import BIG, BIGGEST, EMPTY, SHAPE, USE, OneTest, TwoTest, coded, scalar, vector
from forms import ARRAYS
from rankedfunctions import ranks

TABLE = ([2, 3], [10, 20, 30, 40, 50, 60])


class EndsTest(OneTest, TwoTest):
    def test_where(self):
        for text, answer in (("+:fold:at 6", 11), ("+:fol", 2), ("", 1), ("+ 5", 3), ("+:at", 5)):
            self.expect(ranks.where, [coded(text)], [answer])

    def test_plain(self):
        self.expect(ranks.plain, [coded("+:fold:at 1")], [0] + coded("+:fold:at 1"))

    def test_folds_and_scans(self):
        self.expect_one("-:fold", [3], [10, 3, 2], ([], [5]))
        self.expect_one("-:scan", [3], [10, 3, 2], ([3], [10, 7, 5]))
        self.expect_two("-:fold", scalar(100), vector(10, 3, 2), ([], [85]))
        self.expect_two("-:scan", scalar(100), vector(10, 3, 2), ([3], [90, 87, 85]))
        self.expect_one("+:fold", [0, 2], [], ([2], [0, 0]))
        self.expect_one("Max:fold", [0], [], EMPTY)
        self.expect_one("Join:fold", [2, 2], [1, 2, 3, 4], ([4], [1, 2, 3, 4]))
        self.expect_one("*:fold", [2], [BIGGEST, 10], BIG)

    def test_agreement(self):
        self.expect_two("+", vector(1, 2), TABLE, ([2, 3], [11, 21, 31, 42, 52, 62]))
        self.expect_two("+", vector(1, 2, 3), TABLE, SHAPE)
        self.expect_two("+:at 1", vector(1, 2, 3), TABLE, ([2, 3], [11, 22, 33, 41, 52, 63]))

    def test_cells(self):
        self.expect_one("Iota:at 0", [2], [2, 3], SHAPE)
        self.expect_one("Iota:at 0", [2], [2, 2], ([2, 2], [0, 1, 0, 1]))
        self.expect_one("Iota:at 0", [0], [], ([0, 0], []))

    def test_tables_and_swaps(self):
        self.expect_two("Same:table", vector(1, 2), vector(2, 1), ([2, 2], [0, 1, 1, 0]))
        self.expect_one("+:swap", [], [4], ([], [8]))
        for shape, data in ARRAYS:
            self.expect_one("Abs:swap", shape, data, USE)

    def test_a_fold_of_no_cells_is_not_worked(self):
        for text in ("+:fold", "Or:fold", "*:fold", "And:fold"):
            self.expect(ranks.tally1, [coded(text), [0, 2], []], [0, 0])

    def test_a_shape_with_too_great_a_product_beside_a_0_is_none(self):
        self.expect_one("Ravel", [0, 1024, 2], [], -20)
        self.expect_one("Iota", [3], [0, 1024, 2], -6)
        self.expect_two("Reshape", vector(0, 1024, 2), scalar(5), -6)


if __name__ == "__main__":
    unittest.main()
