"""tally2: how often the base function is worked with two operands."""

import itertools
import unittest

import model
from calls import BIG, BIGGEST, DOMAIN, FORM, FUNCTION, INDEX, LONG, RANK, SHAPE, SIZE, USE, ZERO
from calls import TallyTest, coded, counted, empty, scalar, vector
from forms import ARRAYS, NO_ARRAYS
from rankedfunctions import ranks
from sampler import Sampler
from texts import FAULTS, LONGS, MODIFIERS

SCALARS = "+ - * Div Mod Min Max < <= = /= And Or".split()
MOVES = "Reshape Take Drop Rotate Join Pick Find Same Keep".split()
FIVE = [1, 2, 3, 2, 1]
OF_RANK_5 = (FIVE, [1] * 12)
SQUARE = ([2, 2], [1, 2, 3, 4])

COUNTS = (
    # once for each cell of the longer frame
    ("-:at 0", vector(1, 2), SQUARE, 4),
    ("-:at 0", SQUARE, vector(1, 2), 4),
    ("-:at 1", vector(1, 2), SQUARE, 2),
    ("-:at 1", SQUARE, vector(1, 2), 2),
    ("-:at 2", vector(1, 2), SQUARE, 1),
    ("-:at 5", SQUARE, SQUARE, 1),
    ("Join:at 1", vector(1, 2), ([2, 3], counted([2, 3])), 2),
    ("Join:at 1", SQUARE, ([2, 3, 2], counted([2, 3, 2])), 6),
    ("Join:at 2", SQUARE, ([2, 3, 2], counted([2, 3, 2])), 2),
    ("-:at 1", empty(3, 0), empty(3, 0), 3),
    ("Same:at 1", empty(1024, 0), empty(0), 1024),
    ("-:at 0:at 1", vector(1, 2), SQUARE, 4),
    ("-:at 1:at 0", SQUARE, vector(1, 2), 4),
    ("-:at 3:at 1:at 5", SQUARE, vector(1, 2), 2),
    # once for each pair
    ("-:table", vector(1, 2), vector(1, 2, 3), 6),
    ("-:table", SQUARE, SQUARE, 16),
    ("-:table", scalar(1), vector(1, 2, 3), 3),
    ("-:table", OF_RANK_5, scalar(1), 12),
    ("-:table", ([32], [1] * 32), ([32], [1] * 32), 1024),
    ("-:table:table", vector(1, 2), vector(1, 2, 3), 6),
    ("-:at 0:table", vector(1, 2), vector(1, 2, 3), 6),
    ("-:fold:table", vector(1, 2), vector(1, 2, 3), 6),
    ("-:scan:table", vector(1, 2), vector(1, 2, 3), 6),
    ("-:table:at 1", vector(1, 2), SQUARE, 8),
    ("-:table:at 1", SQUARE, SQUARE, 8),
    ("-:table:at 0", SQUARE, vector(1, 2), 4),
    # once for each cell of y
    ("-:fold", scalar(100), vector(10, 3, 2), 3),
    ("-:scan", scalar(100), vector(10, 3, 2), 3),
    ("-:fold", scalar(100), scalar(3), 1),
    ("-:scan", scalar(100), scalar(3), 1),
    ("-:fold", vector(1, 2), SQUARE, 2),
    ("-:scan", vector(1, 2), SQUARE, 2),
    ("-:fold", OF_RANK_5, scalar(3), 1),
    ("-:fold", scalar(3), OF_RANK_5, 1),
    ("Join:fold", vector(1), empty(3, 0), 3),
    ("+:fold", scalar(0), ([1024], [1] * 1024), 1024),
    ("+:scan", scalar(0), ([1024], [1] * 1024), 1024),
    ("-:fold:fold", scalar(100), SQUARE, 4),
    ("-:fold:fold:fold", scalar(100), ([2, 2, 2], [1] * 8), 8),
    ("-:fold:scan", scalar(100), SQUARE, 4),
    ("-:scan:fold", scalar(100), SQUARE, 4),
    ("-:fold:at 1", scalar(100), SQUARE, 4),
    ("-:fold:at 0", vector(1, 2), SQUARE, 4),
    ("-:scan:at 1", vector(1, 2), SQUARE, 4),
    ("-:at 0:fold", vector(1, 2), vector(1, 2, 3), 6),
    ("-:at 0:scan", vector(1, 2), vector(1, 2, 3), 6),
    ("-:at 0:fold", scalar(1), vector(1, 2, 3), 3),
    ("-:table:fold", vector(1, 2), ([1, 2], [1, 2]), 4),
    ("-:table:fold", vector(1, 2), SQUARE, 12),
    # y F x
    ("-:swap", vector(1, 2), SQUARE, 1),
    ("-:swap:swap", SQUARE, vector(1, 2), 1),
    ("-:fold:swap", vector(1, 2, 3), scalar(9), 3),
    ("-:fold:swap", scalar(9), vector(1, 2, 3), 1),
    ("-:scan:swap", vector(1, 2, 3), scalar(9), 3),
    ("-:table:swap", vector(1, 2, 3), vector(1, 2), 6),
    ("-:at 1:swap", vector(1, 2), SQUARE, 2),
    ("-:swap:fold", scalar(9), vector(1, 2, 3), 3),
    ("-:fold:swap:fold", scalar(100), SQUARE, 3),
    ("Join:fold:swap:fold", scalar(9), vector(1, 2, 3), 6),
    ("-" + ":swap" * 8, vector(1, 2), vector(1, 2), 1),
    ("-" + ":at 0" * 8, vector(1, 2), vector(1, 2), 2),
    ("-" + ":fold" * 8, scalar(1), SQUARE, 4),
)

# What's worked on cells of zeros alone tells a shape, and counts nothing.
OF_ZEROS = (
    ("Join:at 0", empty(0), empty(0), 0),
    ("Join:at 0", scalar(1), empty(0), 0),
    ("Join:at 1", vector(1, 2), empty(0, 3), 0),
    ("Join:at 1", empty(0, 3), vector(1, 2), 0),
    ("Join:table", empty(0), vector(1, 2), 0),
    ("Join:table", vector(1, 2), empty(2, 0), 0),
    ("Join:table", empty(0), empty(0), 0),
    ("-:swap:at 1", empty(0, 3), empty(0, 3), 0),
    ("-:fold:at 1", scalar(5), empty(0, 3), 0),
    ("-:scan:at 1", scalar(5), empty(0, 3), 0),
    ("-:at 1:swap", empty(0, 3), empty(0, 3), 0),
    # also where it's refused
    ("Div:at 1", empty(0, 3), empty(0, 3), 0),
    ("-:at 1", empty(0, 3), empty(0, 2), 0),
    ("Find:at 0", empty(0), empty(0), 0),
    ("Div:table", empty(0), vector(1, 2), 0),
    # and where there would be workings within it
    ("Join:at 0:at 1", empty(0, 2), empty(0, 2), 0),
    ("Join:at 0:at 1", empty(0, 0), empty(0, 0), 0),
    ("-:table:at 1", empty(0, 2), vector(1, 2), 0),
    ("-:fold:at 2", scalar(1), empty(0, 2, 2), 0),
    # within a working that counts, beside what counts
    ("Join:at 0:at 1", empty(3, 0), empty(3, 0), 0),
    ("-:table:at 1", empty(3, 0), vector(1, 2), 0),
    ("-:at 0:fold", empty(0), vector(1, 2), 0),
    ("-:at 1:fold", empty(3, 0), empty(2, 0), 6),
    ("-:at 0:at 1:fold", empty(3, 0), empty(2, 0), 0),
    ("Keep:at 0:fold", scalar(0), vector(7), 1),
    ("Keep:at 0:fold", scalar(0), vector(7, 5), 1),
    ("Keep:table:fold", scalar(0), vector(7, 5, 5), 1),
    ("Keep:at 0:fold:at 0", vector(0, 0), vector(7, 5), 2),
    ("Keep:at 0:fold:at 1", ([2, 1], [0, 0]), ([2, 2], [7, 5, 7, 5]), 2),
    # a fold and a scan of no cells are no workings
    ("-:fold:at 1", scalar(5), empty(3, 0), 0),
    ("-:scan:at 1", scalar(5), empty(3, 0), 0),
    ("-:fold:fold", scalar(5), empty(3, 0), 0),
    ("-:fold:swap", empty(0, 3), scalar(5), 0),
)

REFUSED = (
    ("+", vector(1, 2), vector(1, 2, 3), SHAPE),
    ("+:at 0", vector(1, 2), vector(1, 2, 3), SHAPE),
    ("Reshape:at 0", vector(1, 2), scalar(7), SHAPE),
    ("Reshape", ([1, 1], [-1]), scalar(7), RANK),
    ("Find:table", vector(1), vector(1), RANK),
    ("Pick", scalar(3), vector(1, 2, 3), INDEX),
    ("Pick:at 1", ([2, 1], [0, 2]), vector(1, 2), INDEX),
    ("Div", scalar(1), scalar(0), ZERO),
    ("Div:fold", scalar(1), vector(1, 1, 0), ZERO),
    ("*:scan", scalar(BIGGEST), vector(1, 10), BIG),
    ("+:table", ([33], [1] * 33), ([32], [1] * 32), SIZE),
    ("Join:table", ([32], [1] * 32), ([32], [1] * 32), SIZE),
    ("And:at 0", vector(1, 1, 2), scalar(1), DOMAIN),
    ("Keep:swap", scalar(7), scalar(-1), DOMAIN),
    ("Join:scan", scalar(1), vector(1, 2), SHAPE),
)


class Tally2Test(TallyTest):
    def expect_counts(self, rows):
        for text, x, y, answer in rows:
            self.expect_tally2(text, x, y, answer)

    def test_each_base_function_alone(self):
        for base in SCALARS + MOVES:
            self.expect_tally2(base, vector(0), vector(1), 1)
        for base in SCALARS:
            for shape in ([], [3], [2, 3], FIVE, [0], [3, 0], [0, 3]):
                array = (shape, [1] * len(counted(shape)))
                self.expect_tally2(base, array, array, 1)
                self.expect_tally2(base, scalar(1), array, 1)
                self.expect_tally2(base, array, scalar(1), 1)
        for base in ("Take", "Drop", "Rotate", "Join", "Same", "Keep", "Reshape"):
            for y in (scalar(1), vector(1, 2), SQUARE, empty(0), empty(2, 0)):
                self.expect_tally2(base, scalar(1), y, 1)

    def test_each_base_function_behind_at(self):
        for base in SCALARS + MOVES:
            x, y = ([3, 1], [0] * 3), ([3, 1], [1] * 3)
            self.expect_tally2(base + ":at 1", x, y, 3)
            self.expect_tally2(base + ":at 1", vector(0), y, 3)
            self.expect_tally2(base + ":at 1", x, vector(1), 3)
            self.expect_tally2(base + ":at 1", ([3, 2, 1], [0] * 6), y, 6)
            self.expect_tally2(base + ":at 1", x, ([3, 2, 1], [1] * 6), 6)
            self.expect_tally2(base + ":at 1:at 2", x, ([2, 3, 1], [1] * 6), 6)
            self.expect_tally2(base + ":at 5", vector(0), vector(1), 1)
            for text in (base + ":at 0", base + ":at 1"):
                self.expect_tally2(text, empty(0, 1), empty(0, 1), 0)
            if base not in ("Pick", "Find"):
                self.expect_tally2(base + ":at 0", x, y, 3)
                self.expect_tally2(base + ":at 0", scalar(0), y, 3)
                self.expect_tally2(base + ":at 0", x, scalar(1), 3)

    def test_each_base_function_behind_table(self):
        for base in SCALARS + MOVES:
            self.expect_tally2(base + ":table", empty(0), vector(1, 1), 0)
            self.expect_tally2(base + ":table", vector(0, 0), empty(0, 2), 0)
            self.expect_tally2(base + ":table", empty(2, 0), empty(0), 0)
            if base not in ("Pick", "Find"):
                self.expect_tally2(base + ":table", scalar(0), scalar(1), 1)
                self.expect_tally2(base + ":table", vector(0, 0), vector(1, 1, 1), 6)
                self.expect_tally2(base + ":table", ([2, 2], [0] * 4), vector(1, 1, 1), 12)

    def test_each_base_function_behind_fold_and_scan(self):
        for base in SCALARS + MOVES:
            for text in (base + ":fold", base + ":scan"):
                self.expect_tally2(text, vector(0), ([1, 1], [1]), 1)
                for y in (empty(0), empty(0, 2), empty(0, 3, 0), empty(0, 1024)):
                    self.expect_tally2(text, vector(5), y, 0)
                    self.expect_tally2(text, empty(2, 0), y, 0)
                if base in SCALARS:
                    self.expect_tally2(text, vector(0), ([4, 1], [1] * 4), 4)
                    self.expect_tally2(text, scalar(0), vector(1, 1, 1), 3)
                    self.expect_tally2(text, scalar(0), empty(3, 0), 3)

    def test_each_base_function_behind_swap(self):
        for base in SCALARS + MOVES:
            self.expect_tally2(base + ":swap", vector(1), vector(0), 1)
            self.expect_tally2(base + ":swap:swap", vector(0), vector(1), 1)
            self.expect_tally2(base + ":at 1:swap", ([3, 1], [1] * 3), vector(0), 3)

    def test_chains(self):
        self.expect_counts(COUNTS)

    def test_cells_of_zeros(self):
        self.expect_counts(OF_ZEROS)

    def test_a_refused_working(self):
        self.expect_counts(REFUSED)

    def test_the_order_of_refusals(self):
        no_array = ([2], [1])
        for text in LONGS:
            self.expect_tally2(text, scalar(5), scalar(5), LONG)
            self.expect_tally2(text, no_array, no_array, LONG)
        for text, place in FAULTS:
            self.expect_tally2(text, scalar(5), scalar(5), FUNCTION)
            self.expect_tally2(text, no_array, scalar(5), FUNCTION)
            self.expect_tally2(text, scalar(5), no_array, FUNCTION)
        for array in NO_ARRAYS:
            for text in ("+", "Abs", "Abs:swap", "-:fold", "Pick", "Div:at 0"):
                self.expect_tally2(text, array, scalar(5), FORM)
                self.expect_tally2(text, scalar(5), array, FORM)
                self.expect_tally2(text, array, array, FORM)
        for text in ("Abs", "Iota", "Iota:at 0", "Abs:table", "Abs:fold", "Abs:scan", "Abs:swap", "Iota:at 0:swap"):
            for array in ARRAYS:
                self.expect_tally2(text, array, vector(1, 2), USE)
                self.expect_tally2(text, vector(1, 2), array, USE)

    def check(self, f, x, y):
        answer = ranks.tally2(coded("".join(f)), *x, *y)
        self.assertEqual(answer, model.told_tally2(f, x, y), (f, x, y))

    def test_modifiers_against_the_model(self):
        arrays = (([], [1]), ([2], [1, 0]), ([0], []), ([2, 2], [1, 0, 0, 1]), ([2, 0], []), ([0, 2], []))
        for base, first in itertools.product(SCALARS[:4] + MOVES, MODIFIERS):
            for second in [""] + MODIFIERS[:7]:
                for x, y in itertools.product(arrays, arrays):
                    self.check([base, first, second] if second else [base, first], x, y)

    def test_sampled_functions_and_arrays(self):
        sampler = Sampler()
        for _ in range(10000):
            self.check(sampler.function_of_two(), *sampler.arrays())

    def test_it_is_told_just_where_two_answers(self):
        sampler = Sampler()
        for _ in range(2000):
            f = coded("".join(sampler.function_of_two()))
            x, y = sampler.arrays()
            answer = ranks.two(f, *x, *y)
            tally = ranks.tally2(f, *x, *y)
            self.assertEqual(tally[0], answer[0])
            self.assertEqual(len(tally), 2 if answer[0] == 0 else 1)


if __name__ == "__main__":
    unittest.main()
