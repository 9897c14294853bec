"""one held against a second working of functions, over many functions and arrays."""

import itertools
import unittest

import model
from calls import CallTest, coded, listed
from rankedfunctions import ranks
from sampler import Sampler
from texts import BASES, MODIFIERS

ARRAYS = (
    ([], [0]),
    ([], [3]),
    ([], [-2]),
    ([1], [1]),
    ([1], [-1]),
    ([2], [2, 2]),
    ([2], [1, 0]),
    ([3], [2, -1, 3]),
    ([3], [0, 1, 1]),
    ([0], []),
    ([2, 2], [1, 0, 0, 1]),
    ([2, 3], [1, 2, 0, 2, 0, 1]),
    ([3, 2], [2, 1, 2, 2, 1, 2]),
    ([2, 1], [-3, 2]),
    ([1, 2], [3, 2]),
    ([0, 2], []),
    ([2, 0], []),
    ([2, 2, 2], [0, 1, 1, 1, 2, 0, 0, 2]),
    ([2, 0, 3], []),
    ([0, 3, 2], []),
    ([2, 1, 2, 1, 2], [1, 1, 0, 2, 1, 0, 3, -1]),
)
FEW_MODIFIERS = (":fold", ":scan", ":table", ":swap", ":at 0", ":at 1", ":at 2")


class OneModelTest(CallTest):
    def check(self, f, shape, data):
        answer = ranks.one(coded("".join(f)), shape, data)
        self.assertEqual(answer, listed(model.told_one(f, shape, data)), (f, shape, data))

    def test_each_base_function(self):
        for base in BASES:
            for shape, data in ARRAYS:
                self.check([base], shape, data)

    def test_each_modifier(self):
        for base, modifier in itertools.product(BASES, MODIFIERS):
            for shape, data in ARRAYS:
                self.check([base, modifier], shape, data)

    def test_pairs_of_modifiers(self):
        for base, first, second in itertools.product(BASES, FEW_MODIFIERS, FEW_MODIFIERS):
            for shape, data in ARRAYS:
                self.check([base, first, second], shape, data)

    def test_sampled_functions_and_arrays(self):
        sampler = Sampler()
        for _ in range(20000):
            shape, data = sampler.array()
            self.check(sampler.function(), shape, data)


if __name__ == "__main__":
    unittest.main()
