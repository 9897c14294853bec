"""two: in which order a text, the operands and a use are looked at."""

import unittest

from calls import DOMAIN, FORM, FUNCTION, LONG, RANK, SHAPE, SIZE, USE, ZERO, TwoTest, empty, scalar, vector
from forms import ARRAYS, NO_ARRAYS
from texts import BASES, FAULTS, LONGS

NO_ARRAY = ([2], [1])

# A function that may not be used with two operands, of each way to make one.
WITHOUT_TWO = (
    "Abs", "Sign", "Not", "Shape", "Count", "Ravel", "Iota", "Flip", "Turn", "Grade", "Where", "First", "Abs:table",
    "Iota:at 0", "Iota:at 5", "Turn:at 1:table", "Abs:fold", "Abs:scan", "Abs:swap", "Iota:at 0:swap", "Iota:swap:at 0",
    "Not:fold:table", "First:fold:swap", "Grade" + ":at 1" * 8,
)


class OrderTest(TwoTest):
    def test_long_first(self):
        for text in LONGS:
            self.expect_two(text, scalar(5), scalar(5), LONG)
            self.expect_two(text, NO_ARRAY, NO_ARRAY, LONG)
        self.expect_two("Abs" + " " * 253, scalar(5), scalar(5), USE)
        self.expect_two("Abs" + " " * 254, scalar(5), scalar(5), LONG)

    def test_function_next(self):
        for text, place in FAULTS:
            self.expect_two(text, scalar(5), scalar(5), FUNCTION)
            self.expect_two(text, NO_ARRAY, scalar(5), FUNCTION)
            self.expect_two(text, scalar(5), NO_ARRAY, FUNCTION)
            self.expect_two(text, NO_ARRAY, NO_ARRAY, FUNCTION)

    def test_form_next(self):
        for shape, data in NO_ARRAYS:
            for text in ("+", "Abs", "Abs:swap", "-:fold", "Pick", "Div:at 0"):
                self.expect_two(text, (shape, data), scalar(5), FORM)
                self.expect_two(text, scalar(5), (shape, data), FORM)
                self.expect_two(text, (shape, data), (shape, data), FORM)

    def test_form_ahead_of_what_the_other_operand_would_be_refused_with(self):
        for text in ("Reshape", "Pick", "Find", "Take:at 0", "Abs:table"):
            self.expect_two(text, ([1, 1], [-1]), NO_ARRAY, FORM)
            self.expect_two(text, NO_ARRAY, ([1, 1], [-1]), FORM)

    def test_use_next(self):
        for text in WITHOUT_TWO:
            for shape, data in ARRAYS:
                self.expect_two(text, (shape, data), scalar(5), USE)
                self.expect_two(text, scalar(5), (shape, data), USE)
                self.expect_two(text, (shape, data), vector(1, 2, 3), USE)

    def test_the_working_last(self):
        self.expect_two("Not:swap", vector(2), scalar(2), USE)
        self.expect_two("And", vector(2), scalar(2), DOMAIN)
        self.expect_two("Iota", ([1, 1], [-1]), scalar(2), USE)
        self.expect_two("Reshape", ([1, 1], [-1]), scalar(2), RANK)
        self.expect_two("Div", vector(1, 2), vector(0), SHAPE)
        self.expect_two("Div", vector(1), vector(0), ZERO)
        self.expect_two("Div:table", vector(*[1] * 33), vector(*[0] * 32), SIZE)

    def test_every_array_has_the_form(self):
        for shape, data in ARRAYS:
            self.expect_two("Same", (shape, data), (shape, data), ([], [1]))
            self.expect_two("Min", (shape, data), (shape, data), (shape, data))
            self.expect_two("Min:swap:at 0", (shape, data), (shape, data), (shape, data))

    def test_each_base_function_and_its_use(self):
        twos = "+ - * Div Mod Min Max < <= = /= And Or Reshape Take Drop Rotate Join Pick Find Same Keep".split()
        for base in BASES:
            if base not in twos:
                self.assertIn(base, WITHOUT_TWO)
                self.expect_two(base, vector(1), vector(1), USE)
            else:
                self.expect_two(base, ([0, 1], [0]), vector(1), FORM)
                self.expect_two(base, vector(1), ([0, 1], [0]), FORM)

    def test_texts_with_blanks(self):
        self.expect_two(" -\n:at\t0 ", vector(5, 6), vector(1, 2), ([2], [4, 4]))
        self.expect_two("\r- :fold:at1 ", scalar(100), ([2, 2], [1, 2, 3, 4]), ([2], [97, 93]))
        self.expect_two("< =", scalar(1), scalar(1), FUNCTION)
        self.expect_two(" <= ", empty(0), empty(0), ([0], []))


if __name__ == "__main__":
    unittest.main()
