"""tally1: how often the base function is worked with one operand."""

import itertools
import unittest

import model
from calls import BIG, BIGGEST, DOMAIN, EMPTY, FORM, FUNCTION, INDEX, LONG, RANK, SHAPE, SIZE, USE, ZERO
from calls import TallyTest, coded, counted
from forms import ARRAYS, NO_ARRAYS
from rankedfunctions import ranks
from sampler import Sampler
from texts import BASES, FAULTS, LONGS, MODIFIERS

ONES = "- Abs Sign Not Shape Count Ravel Iota Flip Turn Grade Where First".split()
TWOS = "+ - * Div Mod Min Max < <= = /= And Or Reshape Take Drop Rotate Join Pick Find Same Keep".split()
FIVE = [1, 2, 3, 2, 1]

# Chains, and the modifiers that count what a base function alone doesn't tell.
COUNTS = (
    # once for each cell, and none where there are no cells
    ("Turn:at 1", [2, 3], [1, 2, 3, 4, 5, 6], 2),
    ("Turn:at 0", [2, 3], [1, 2, 3, 4, 5, 6], 6),
    ("Iota:at 0", [2], [2, 2], 2),
    ("Iota:at 1", [2, 2], [1, 2, 1, 2], 2),
    ("Count:at 1", [3, 0], [], 3),
    ("Count:at 1", [1024, 0], [], 1024),
    ("Count:at 1", [0, 3], [], 0),
    ("Iota:table", [2], [3, 3], 2),
    ("-:table", [2, 3], [1, 2, 3, 4, 5, 6], 6),
    # one :at behind another
    ("Turn:at 1:at 2", [2, 3, 4], counted([2, 3, 4]), 6),
    ("Turn:at 2:at 1", [2, 3, 4], counted([2, 3, 4]), 6),
    ("Turn:at 0:at 5:at 1", [2, 3, 4], counted([2, 3, 4]), 24),
    ("Abs:table:table:at 2", [2, 3], counted([2, 3]), 6),
    # once less than there are cells
    ("-:fold", [3], [10, 3, 2], 2),
    ("-:scan", [3], [10, 3, 2], 2),
    ("-:fold", [3, 2], [1, 2, 3, 4, 5, 6], 2),
    ("-:scan", [3, 2], [1, 2, 3, 4, 5, 6], 2),
    ("+:fold", [1024], [1] * 1024, 1023),
    ("+:scan", [1024], [1] * 1024, 1023),
    ("Join:fold", [2, 2], [1, 2, 3, 4], 1),
    ("Join:fold", [3, 0], [], 2),
    ("+:fold:at 1", [2, 3], [1, 2, 3, 4, 5, 6], 4),
    ("+:fold:at 0", [2, 3], [1, 2, 3, 4, 5, 6], 0),
    ("+:fold:at 1", [3, 0], [], 0),
    ("*:fold:at 1", [3, 0], [], 0),
    ("+:scan:at 1", [2, 3], [1, 2, 3, 4, 5, 6], 4),
    ("+:scan:at 1", [3, 0], [], 0),
    # a fold of folds: the first cell, then each element of the others
    ("+:fold:fold", [3, 4], counted([3, 4]), 8),
    ("+:fold:fold:fold", [3, 2, 2], counted([3, 2, 2]), 8),
    ("+:scan:fold", [3, 2], counted([3, 2]), 4),
    ("+:at 0:fold", [3, 2], counted([3, 2]), 4),
    ("+:at 1:fold", [3, 2, 2], counted([3, 2, 2]), 4),
    ("+:table:fold", [2, 3], counted([2, 3]), 9),
    ("+:table:fold", [3, 2], counted([3, 2]), 12),
    ("Join:at 0:fold", [3, 2], counted([3, 2]), 6),
    # y F y
    ("+:swap", [], [4], 1),
    ("+:swap:swap", [2], [4, 5], 1),
    ("+:table:swap", [3], [1, 2, 3], 9),
    ("+:table:swap", [2, 2], [1, 2, 3, 4], 16),
    ("+:at 0:swap", [2, 2], [1, 2, 3, 4], 4),
    ("+:at 1:swap", [2, 2], [1, 2, 3, 4], 2),
    ("+:fold:swap", [3], [1, 2, 3], 3),
    ("+:scan:swap", [3], [1, 2, 3], 3),
    ("+:fold:swap", [0], [], 0),
    ("+:scan:swap", [0, 2], [], 0),
    ("+:swap:at 0", [2, 2], [1, 2, 3, 4], 4),
    ("+:swap:fold", [4], [1, 2, 3, 4], 3),
    ("+:fold:table:swap", [3], [1, 2, 3], 9),
    ("-" + ":swap" * 8, [3], [1, 2, 3], 1),
    ("Turn" + ":at 0" * 8, [3], [1, 2, 3], 3),
    ("+:table:swap", [32], [1] * 32, 1024),
)

# What's worked on cells of zeros alone tells a shape, and counts nothing.
OF_ZEROS = (
    ("Iota:at 0", [0], [], 0),
    ("Iota:at 1", [0, 3], [], 0),
    ("Iota:table", [0], [], 0),
    ("Shape:at 2", [0, 3, 4], [], 0),
    ("-:at 1", [0, 3], [], 0),
    ("Join:swap:at 1", [0, 2], [], 0),
    ("+:fold:at 1", [0, 3], [], 0),
    ("+:scan:at 2", [0, 3, 2], [], 0),
    ("Join:at 1:swap", [0, 3], [], 0),
    ("Join:table:swap", [0], [], 0),
    ("Join:table:swap", [2, 0], [], 0),
    # also where it's refused
    ("Grade:at 0", [0], [], 0),
    ("Div:swap:at 1", [0, 2], [], 0),
    ("Div:table:swap", [0], [], 0),
    ("Max:fold:at 1", [0, 0], [], 0),
    # and where there would be workings within it
    ("Iota:at 0:at 1", [0, 3], [], 0),
    ("Iota:at 0:at 1", [0, 0], [], 0),
    ("+:fold:at 1:at 2", [0, 3, 4], [], 0),
    # within a working that counts, beside what counts
    ("Iota:at 0:at 1", [3, 0], [], 0),
    ("Iota:at 0:at 1:at 2", [3, 2, 0], [], 0),
    ("Keep:at 0:fold", [2], [0, 7], 1),
    ("Keep:at 0:fold", [3], [0, 7, 5], 1),
    ("Keep:at 0:fold", [4], [0, 7, 5, 5], 1),
    ("Keep:table:fold", [3], [0, 7, 5], 1),
    ("Reshape:at 0:swap:fold", [3], [5, 0, 7], 1),
    ("Join:at 0:fold", [2, 0], [], 0),
    ("Join:at 0:fold", [3, 0], [], 0),
    ("-:at 0:fold", [3, 0], [], 0),
    ("-:at 1:fold", [3, 2, 0], [], 4),
    ("-:at 0:swap:at 1", [3, 0], [], 0),
    ("-:table:swap:at 1", [3, 0], [], 0),
    ("-:at 0:at 1:fold", [3, 2, 0], [], 0),
    ("Where:at 1", [2, 2], [1, 0, 0, 1], 2),
    ("Reshape:swap:fold", [3], [7, 0, 3], 2),
)

REFUSED = (
    ("Iota", [1, 1], [-1], RANK),
    ("Iota", [], [-1], DOMAIN),
    ("Iota", [], [1025], SIZE),
    ("Iota:at 0", [2], [2, 3], SHAPE),
    ("Iota:at 0", [33], [32] * 33, SIZE),
    ("Grade", [], [5], RANK),
    ("Not", [2], [0, 2], DOMAIN),
    ("Not:at 0", [3], [0, 1, 2], DOMAIN),
    ("Max:fold", [0], [], EMPTY),
    ("Max:fold:at 1", [3, 0], [], EMPTY),
    ("+:at 0:fold", [0], [], EMPTY),
    ("*:fold", [2], [BIGGEST, 10], BIG),
    ("*:fold", [4], [1, BIGGEST, 10, 1], BIG),
    ("Div:scan", [3], [7, 1, 0], ZERO),
    ("Pick:fold", [2, 2], [0, 2, 5, 6], INDEX),
    ("Join:scan", [3], [1, 2, 3], SHAPE),
    ("+:table:swap", [33], [1] * 33, SIZE),
)


class Tally1Test(TallyTest):
    def expect_counts(self, rows):
        for text, shape, data, answer in rows:
            self.expect_tally1(text, shape, data, answer)

    def test_each_base_function_alone(self):
        for base in ONES:
            self.expect_tally1(base, [2], [1, 0], 1)
        for shape in ([], [1], [5], [2, 3], FIVE, [0], [3, 0], [0, 3], [1024, 0]):
            for base in ("-", "Abs", "Sign", "Shape", "Count", "Ravel", "Flip", "Turn", "First"):
                self.expect_tally1(base, shape, counted(shape), 1)

    def test_each_base_function_behind_at_and_table(self):
        for base in ONES:
            if base != "Grade" and base != "Where":
                self.expect_tally1(base + ":table", [2, 3], [1] * 6, 6)
                self.expect_tally1(base + ":at 0", [2, 3], [1] * 6, 6)
            self.expect_tally1(base + ":at 1", [2, 3], [1] * 6, 2)
            self.expect_tally1(base + ":at 1", [3], [1] * 3, 1)
            self.expect_tally1(base + ":at 1:at 2", [2, 2, 3], [1] * 12, 4)
            self.expect_tally1(base + ":at 0", [0, 2], [], 0)
            self.expect_tally1(base + ":at 1", [0, 2], [], 0)
            self.expect_tally1(base + ":at 2", [0, 2], [], RANK if base in ("Iota", "Where") else 1)

    def test_each_base_function_behind_fold_scan_and_swap(self):
        for base in TWOS:
            for shape, data in (([], [1]), ([1], [1]), ([1, 2], [1, 0]), ([1, 0], [])):
                self.expect_tally1(base + ":fold", shape, data, 0)
                self.expect_tally1(base + ":scan", shape, data, 0)
            for shape in ([0], [0, 2], [0, 1024], [0, 3, 0]):
                self.expect_tally1(base + ":scan", shape, [], 0)
                self.expect_tally1(base + ":fold", shape, [], 0 if base in ("+", "*", "And", "Or") else EMPTY)
            self.expect_tally1(base + ":fold:at 1", [3, 1], [1, 1, 1], 0)
            self.expect_tally1(base + ":swap", [1], [0 if base == "Pick" else 1], 1)
            if base not in ("Find", "Pick"):
                self.expect_tally1(base + ":fold", [2], [1, 1], 1)
                self.expect_tally1(base + ":fold:at 1", [3, 2], [1] * 6, 3)
                self.expect_tally1(base + ":swap:table", [2, 2], [1] * 4, 4)
                self.expect_tally1(base + ":table:swap", [2], [1, 1], 4)
                self.expect_tally1(base + ":at 0:swap", [2], [1, 1], 2)
                self.expect_tally1(base + ":at 0:fold", [2, 2], [1] * 4, 2)
        for base in "+ - * Div Mod Min Max < <= = /= And Or".split():
            self.expect_tally1(base + ":fold", [2, 3], [1] * 6, 1)
            self.expect_tally1(base + ":scan", [2, 3], [1] * 6, 1)
            self.expect_tally1(base + ":scan:at 1", [2, 3], [1] * 6, 4)
            self.expect_tally1(base + ":swap", FIVE, [1] * 12, 1)

    def test_chains(self):
        self.expect_counts(COUNTS)

    def test_cells_of_zeros(self):
        self.expect_counts(OF_ZEROS)

    def test_a_refused_working(self):
        self.expect_counts(REFUSED)

    def test_the_order_of_refusals(self):
        for text in LONGS:
            self.expect_tally1(text, [], [5], LONG)
            self.expect_tally1(text, [-1], [], LONG)
        for text, place in FAULTS:
            self.expect_tally1(text, [], [5], FUNCTION)
            self.expect_tally1(text, [-1], [], FUNCTION)
        for shape, data in NO_ARRAYS:
            for text in ("Abs", "+", "Abs:swap", "+:fold", "Iota", "Grade:at 0"):
                self.expect_tally1(text, shape, data, FORM)
        for text in ("+", "Join", "Join:at 0", "+:table", "Abs:fold", "Abs:scan", "Abs:swap", "Iota:at 0:swap"):
            for shape, data in ARRAYS:
                self.expect_tally1(text, shape, data, USE)

    def check(self, f, shape, data):
        answer = ranks.tally1(coded("".join(f)), shape, data)
        self.assertEqual(answer, model.told_tally1(f, shape, data), (f, shape, data))

    def test_modifiers_against_the_model(self):
        arrays = (([], [1]), ([2], [1, 0]), ([0], []), ([3, 2], [1, 0, 1, 1, 0, 1]), ([2, 0], []), ([0, 2], []),
                  ([2, 2, 2], [1, 0, 1, 1, 0, 0, 1, 0]))
        for base, first in itertools.product(BASES, MODIFIERS):
            for second in [""] + MODIFIERS[:7]:
                for shape, data in arrays:
                    self.check([base, first, second] if second else [base, first], shape, data)

    def test_sampled_functions_and_arrays(self):
        sampler = Sampler()
        for _ in range(10000):
            shape, data = sampler.array()
            self.check(sampler.function(), shape, data)

    def test_it_is_told_just_where_one_answers(self):
        sampler = Sampler()
        for _ in range(2000):
            f = coded("".join(sampler.function()))
            shape, data = sampler.array()
            answer = ranks.one(f, shape, data)
            tally = ranks.tally1(f, shape, data)
            self.assertEqual(tally[0], answer[0])
            self.assertEqual(len(tally), 2 if answer[0] == 0 else 1)


if __name__ == "__main__":
    unittest.main()
