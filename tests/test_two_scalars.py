"""two: the scalar functions of two operands."""

import unittest

import model
from calls import BIG, BIGGEST, DOMAIN, SHAPE, ZERO, TwoTest, counted, empty, scalar, vector
from numbers_of_two import NUMBERS, REFUSED

SCALARS = "+ - * Div Mod Min Max < <= = /= And Or".split()
FIVE = [1, 2, 3, 2, 1]
TABLE = ([2, 3], [10, 20, 30, 40, 50, 60])
CUBE = ([2, 2, 2], [10, 20, 30, 40, 50, 60, 70, 80])

AGREEING = (
    # the same shape
    ("-", scalar(5), scalar(3), ([], [2])),
    ("-", vector(5, 6, 7), vector(1, 2, 4), ([3], [4, 4, 3])),
    ("-", TABLE, ([2, 3], [1, 2, 3, 4, 5, 6]), ([2, 3], [9, 18, 27, 36, 45, 54])),
    ("-", (FIVE, counted(FIVE)), (FIVE, [1] * 12), (FIVE, [number - 1 for number in counted(FIVE)])),
    ("-", empty(0), empty(0), ([0], [])),
    ("-", empty(2, 0, 3), empty(2, 0, 3), ([2, 0, 3], [])),
    # the empty one is the beginning of every one
    ("-", scalar(5), vector(1, 2), ([2], [4, 3])),
    ("-", vector(1, 2), scalar(5), ([2], [-4, -3])),
    ("-", scalar(5), vector(1), ([1], [4])),
    ("-", vector(1), scalar(5), ([1], [-4])),
    ("-", scalar(5), TABLE, ([2, 3], [-5, -15, -25, -35, -45, -55])),
    ("-", TABLE, scalar(5), ([2, 3], [5, 15, 25, 35, 45, 55])),
    ("-", scalar(5), (FIVE, counted(FIVE)), (FIVE, [5 - number for number in counted(FIVE)])),
    ("-", (FIVE, counted(FIVE)), scalar(5), (FIVE, [number - 5 for number in counted(FIVE)])),
    ("-", scalar(5), empty(0), ([0], [])),
    ("-", empty(0, 3), scalar(5), ([0, 3], [])),
    # a longer one, right and left
    ("+", vector(1, 2), TABLE, ([2, 3], [11, 21, 31, 42, 52, 62])),
    ("-", vector(1, 2), TABLE, ([2, 3], [-9, -19, -29, -38, -48, -58])),
    ("-", TABLE, vector(1, 2), ([2, 3], [9, 19, 29, 38, 48, 58])),
    ("-", vector(1, 2), CUBE, ([2, 2, 2], [-9, -19, -29, -39, -48, -58, -68, -78])),
    ("-", CUBE, vector(1, 2), ([2, 2, 2], [9, 19, 29, 39, 48, 58, 68, 78])),
    ("-", ([2, 2], [1, 2, 3, 4]), CUBE, ([2, 2, 2], [-9, -19, -28, -38, -47, -57, -66, -76])),
    ("-", CUBE, ([2, 2], [1, 2, 3, 4]), ([2, 2, 2], [9, 19, 28, 38, 47, 57, 66, 76])),
    ("-", ([1, 2], [0, 100]), (FIVE, counted(FIVE)), (FIVE, [0, -1, -2, -3, -4, -5, 94, 93, 92, 91, 90, 89])),
    ("-", (FIVE, counted(FIVE)), ([1, 2, 3], [0, 1, 2, 3, 4, 5]), (FIVE, [0, 1, 1, 2, 2, 3, 3, 4, 4, 5, 5, 6])),
    ("-", vector(1, 2), empty(2, 0), ([2, 0], [])),
    ("-", empty(2, 0), vector(1, 2), ([2, 0], [])),
    ("-", empty(0), empty(0, 3), ([0, 3], [])),
    ("-", empty(0, 3), empty(0), ([0, 3], [])),
    ("-", empty(0, 0), empty(0, 0, 2, 0, 1), ([0, 0, 2, 0, 1], [])),
    # neither is the beginning of the other
    ("+", vector(1, 2, 3), TABLE, SHAPE),
    ("+", TABLE, vector(1, 2, 3), SHAPE),
)

# Pairs of shapes that don't agree.
UNLIKE = (
    ([1], [2]), ([2], [3]), ([0], [1]), ([0], [2]), ([3], [2, 3]), ([1], [2, 1]), ([1], [2, 2]), ([2], [1, 2]),
    ([0], [2, 0]), ([2, 3], [3, 2]), ([2, 3], [2, 2]), ([2, 1], [2, 3]), ([2, 0], [2, 1]), ([0, 2], [0, 3]),
    ([2, 3], [2, 1, 3]), ([2, 3], [1, 2, 3]), ([2, 1], [2, 2, 1]), ([2, 0], [2, 3, 0]), (FIVE, [1, 2, 3, 2, 2]),
    ([2], FIVE), ([1, 2, 3, 1], FIVE), ([0, 0], [0, 1, 0, 0, 0]),
)

# A refusal wherever it stands among the elements; no refusal where no elements are worked.
REFUSED_WITHIN = (
    ("Div", vector(1, 2, 3), vector(0, 1, 1), ZERO),
    ("Div", vector(1, 2, 3), vector(1, 1, 0), ZERO),
    ("Mod", TABLE, vector(1, 0), ZERO),
    ("Mod", vector(1, 0), ([2, 2], [1, 1, 1, 0]), ZERO),
    ("Div", TABLE, scalar(0), ZERO),
    ("+", vector(1, BIGGEST), vector(1, 1), BIG),
    ("-", vector(-BIGGEST, 1), scalar(1), BIG),
    ("*", scalar(BIGGEST), vector(0, 1, 2), BIG),
    ("*", scalar(BIGGEST), vector(0, 1, -1), ([3], [0, BIGGEST, -BIGGEST])),
    ("And", vector(1, 0, 2), vector(1, 1, 1), DOMAIN),
    ("And", vector(1, 0, 1), vector(1, 1, 2), DOMAIN),
    ("Or", scalar(2), vector(1, 1), DOMAIN),
    ("Or", vector(1, 1), scalar(-1), DOMAIN),
    ("Or", (FIVE, [0] * 11 + [2]), scalar(1), DOMAIN),
    ("Div", empty(0), scalar(0), ([0], [])),
    ("Mod", empty(0, 2), empty(0), ([0, 2], [])),
    ("Div", vector(1, 2), empty(2, 0), ([2, 0], [])),
    ("Div", empty(2, 0), vector(0, 0), ([2, 0], [])),
    ("And", scalar(2), empty(0), ([0], [])),
    ("Or", empty(3, 0), scalar(2), ([3, 0], [])),
    ("Or", empty(3, 0), vector(2, 2, 2), ([3, 0], [])),
    # which shapes agree is looked at ahead of the numbers
    ("Div", vector(1, 2), vector(0, 0, 0), SHAPE),
    ("Div", vector(1, 2), empty(0), SHAPE),
    ("And", vector(2, 2), vector(2), SHAPE),
    ("*", vector(BIGGEST, BIGGEST), vector(BIGGEST), SHAPE),
)


def fitting(base, extents, left):
    """An array that no function refuses an element of: Div and Mod divide by none that's 0."""
    begin = 1 if base in ("Div", "Mod") and not left else 0
    return list(extents), [begin + number % 2 for number in range(len(counted(extents)))]


class ScalarsTest(TwoTest):
    def test_each_function_is_there(self):
        self.assertEqual([base for base, rows in NUMBERS], SCALARS)

    def test_numbers(self):
        for base, rows in NUMBERS:
            for a, b, answer in rows:
                self.expect_two(base, scalar(a), scalar(b), ([], [answer]))
                self.expect_two(base, vector(a), scalar(b), ([1], [answer]))
                self.expect_two(base, scalar(a), ([1, 1, 1, 1, 1], [b]), ([1, 1, 1, 1, 1], [answer]))

    def test_numbers_of_a_vector_and_a_table(self):
        for base, rows in NUMBERS:
            left, right, answers = ([row[place] for row in rows] for place in range(3))
            count = len(rows)
            for shape in ([count], [count, 1], [1, 1, 1, 1, count]):
                self.expect_two(base, (shape, left), (shape, right), (shape, answers))
            self.expect_two(base, ([count], left), ([count, 1], right), ([count, 1], answers))
            self.expect_two(base, ([count, 1], left), ([count], right), ([count, 1], answers))

    def test_refused_numbers(self):
        for base, refusal, pairs in REFUSED:
            for a, b in pairs:
                self.expect_two(base, scalar(a), scalar(b), refusal)
                self.expect_two(base, vector(a), vector(b), refusal)
                self.expect_two(base, ([1, 1], [a]), vector(b), refusal)
                self.expect_two(base, scalar(a), ([1, 1, 1, 1, 1], [b]), refusal)

    def test_agreeing(self):
        self.expect_rows(AGREEING)

    def test_each_function_with_each_beginning_of_a_shape(self):
        for base in SCALARS:
            for extents in ([], [3], [2, 3], [2, 1, 3], FIVE, [2, 0], [0, 2], [2, 2, 0, 1, 2]):
                for part in range(len(extents) + 1):
                    for x_shape, y_shape in ((extents, extents[:part]), (extents[:part], extents)):
                        x = fitting(base, x_shape, True)
                        y = fitting(base, y_shape, False)
                        # The element with a number in the longer one meets the one in whose run it stands.
                        data = []
                        for number in range(len(counted(extents))):
                            a = x[1][number * len(x[1]) // len(counted(extents))]
                            b = y[1][number * len(y[1]) // len(counted(extents))]
                            data.append(model.PAIRS[base](a, b))
                        self.expect_two(base, x, y, (extents, data))

    def test_shapes_that_dont_agree(self):
        for base in SCALARS:
            for one, other in UNLIKE:
                self.expect_two(base, fitting(base, one, True), fitting(base, other, False), SHAPE)
                self.expect_two(base, fitting(base, other, True), fitting(base, one, False), SHAPE)

    def test_refused_within(self):
        self.expect_rows(REFUSED_WITHIN)


if __name__ == "__main__":
    unittest.main()
