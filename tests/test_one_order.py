"""one: in which order a text, an operand and a use are looked at, and what's no array."""

import unittest

from calls import DOMAIN, FORM, FUNCTION, LONG, RANK, USE, OneTest
from forms import ARRAYS, NO_ARRAYS
from texts import BASES, FAULTS, LONGS

# A function that may not be used with one operand, of each way to make one.
WITHOUT_ONE = (
    "+", "*", "Div", "Mod", "Min", "Max", "<", "<=", "=", "/=", "And", "Or", "Reshape", "Take", "Drop", "Rotate",
    "Join", "Pick", "Find", "Same", "Keep", "+:table", "Join:at 0", "Join:at 5", "Keep:at 1:table", "Abs:fold",
    "Abs:scan", "Abs:swap", "Iota:fold", "Iota:at 0:swap", "Iota:swap:at 0", "Not:fold:table", "First:fold:swap",
    "Same" + ":at 1" * 8,
)


class OrderTest(OneTest):
    def test_long_first(self):
        for text in LONGS:
            self.expect_one(text, [], [5], LONG)
            self.expect_one(text, [-1], [], LONG)
        self.expect_one("+" + " " * 255, [], [5], USE)
        self.expect_one("+" + " " * 256, [], [5], LONG)

    def test_function_next(self):
        for text, place in FAULTS:
            self.expect_one(text, [], [5], FUNCTION)
            self.expect_one(text, [-1], [], FUNCTION)
            self.expect_one(text, [1], [1, 2], FUNCTION)

    def test_form_next(self):
        for shape, data in NO_ARRAYS:
            for text in ("Abs", "+", "Abs:swap", "+:fold", "Iota", "Grade:at 0"):
                self.expect_one(text, shape, data, FORM)

    def test_use_next(self):
        for text in WITHOUT_ONE:
            for shape, data in ARRAYS:
                self.expect_one(text, shape, data, USE)

    def test_the_working_last(self):
        self.expect_one("Iota", [1, 1], [-1], RANK)
        self.expect_one("Not", [], [2], DOMAIN)
        self.expect_one("Not:swap", [], [2], USE)
        self.expect_one("Not:swap", [1], [], FORM)

    def test_every_array_has_the_form(self):
        for shape, data in ARRAYS:
            self.expect_one("Flip:at 0", shape, data, (shape, data))
            self.expect_one("Ravel", shape, data, ([len(data)], data))

    def test_each_base_function_and_its_use(self):
        ones = "- Abs Sign Not Shape Count Ravel Iota Flip Turn Grade Where First".split()
        for base in BASES:
            if base not in ones:
                self.assertIn(base, WITHOUT_ONE)
                self.expect_one(base, [1], [1], USE)
            else:
                self.expect_one(base, [0, 1], [0], FORM)

    def test_texts_with_blanks(self):
        self.expect_one(" Abs\n:at\t0 ", [2], [-5, 5], ([2], [5, 5]))
        self.expect_one("\r+ :fold:at1 ", [2, 2], [1, 2, 3, 4], ([2], [3, 7]))


if __name__ == "__main__":
    unittest.main()
