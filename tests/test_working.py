"""Functions of two operands handed to the working itself: with one, not every pair of operands can be reached."""

import unittest

import model
from calls import coded, listed
from rankedfunctions.arrays import handed_array
from rankedfunctions.functions import read_function
from rankedfunctions.refusals import answer_of
from rankedfunctions.working import work_of_two
from sampler import Sampler
from texts import BASES

SHAPES = ([], [0], [1], [2], [3], [2, 2], [2, 3], [3, 2], [1, 2], [0, 2], [2, 0], [0, 0], [2, 2, 2], [2, 0, 2])


class WorkingTest(unittest.TestCase):
    def check(self, f, x, y):
        def call():
            answer = work_of_two(read_function(coded("".join(f))), handed_array(*x), handed_array(*y))
            return listed((answer.shape, answer.data))
        self.assertEqual(answer_of(call), listed(model.told_two(f, x, y)), (f, x, y))

    def test_a_refusal_of_cells_of_zeros(self):
        for f, x, y, answer in (
            (["Pick", ":at 1"], ([0, 1], []), ([0, 0], []), ([0], [])),
            (["Pick", ":at 1"], ([0, 1], []), ([0, 2], []), ([0, 1], [])),
            (["Find", ":at 2"], ([0, 2, 2], []), ([0, 2, 3], []), ([0], [])),
            (["Rotate", ":at 1"], ([0, 1], []), ([0, 0], []), ([0, 0], [])),
        ):
            self.assertEqual(model.told_two(f, x, y), answer)
            self.check(f, x, y)

    def test_each_base_function(self):
        sampler = Sampler()
        for base in BASES:
            if 2 not in model.uses([base]):
                continue
            for x_shape in SHAPES:
                for y_shape in SHAPES:
                    for numbers in ((0, 1), (1, 2, 3), (-2, -1, 0, 1)):
                        self.check([base], sampler.filled(x_shape, numbers), sampler.filled(y_shape, (0, 1, 2, -3)))

    def test_sampled_functions_and_arrays(self):
        sampler = Sampler()
        for _ in range(10000):
            self.check(sampler.function_of_two(), sampler.array(), sampler.array())


if __name__ == "__main__":
    unittest.main()
