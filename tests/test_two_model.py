"""two held against a second working of functions, over many functions and arrays."""

import itertools
import unittest

import model
from calls import coded, listed
from rankedfunctions import ranks
from sampler import Sampler
from texts import BASES, MODIFIERS

SHAPES = (
    [], [0], [1], [2], [3], [2, 2], [2, 3], [3, 2], [1, 2], [0, 2], [2, 0], [0, 0], [2, 2, 2], [2, 0, 2],
    [2, 1, 2, 1, 2],
)
FEW_SHAPES = ([], [0], [2], [2, 2], [0, 2], [2, 0], [2, 2, 2])
FEW_MODIFIERS = (":fold", ":scan", ":table", ":swap", ":at 0", ":at 1", ":at 2")
TWOS = [base for base in BASES if 2 in model.uses([base])]


class TwoModelTest(unittest.TestCase):
    def setUp(self):
        self.sampler = Sampler()

    def check(self, f, x, y):
        answer = ranks.two(coded("".join(f)), *x, *y)
        self.assertEqual(answer, listed(model.told_two(f, x, y)), (f, x, y))

    def check_shapes(self, f, shapes, left_numbers):
        for x_shape, y_shape in itertools.product(shapes, shapes):
            x = self.sampler.filled(x_shape, left_numbers)
            self.check(f, x, self.sampler.filled(y_shape, (0, 1, 2, -3)))

    def test_each_base_function(self):
        for base in BASES:
            for numbers in ((0, 1), (1, 2, 3), (-2, -1, 0, 1)):
                self.check_shapes([base], SHAPES, numbers)

    def test_each_modifier(self):
        for base, modifier in itertools.product(TWOS, MODIFIERS):
            self.check_shapes([base, modifier], SHAPES, (0, 1, 1))

    def test_pairs_of_modifiers(self):
        for base, first, second in itertools.product(TWOS, FEW_MODIFIERS, FEW_MODIFIERS):
            self.check_shapes([base, first, second], FEW_SHAPES, (0, 1, 1, 2))

    def test_sampled_functions_and_arrays(self):
        for _ in range(20000):
            self.check(self.sampler.function_of_two(), *self.sampler.arrays())


if __name__ == "__main__":
    unittest.main()
