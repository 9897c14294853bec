"""What the tests of every call use: the refusals' numbers, arrays as they are answered, and how a call is asked."""

import copy
import unittest

from rankedfunctions import ranks

SHAPE = -1
RANK = -2
INDEX = -3
ZERO = -4
BIG = -5
SIZE = -6
DOMAIN = -7
EMPTY = -8
USE = -11
FORM = -20
LONG = -21
FUNCTION = -22

BIGGEST = 10 ** 18


def coded(text):
    return [ord(sign) for sign in text]


def counted(extents):
    """0, 1, 2 and so on: the data of an array with these extents."""
    count = 1
    for extent in extents:
        count *= extent
    return list(range(count))


def scalar(number):
    """An array as the tests of two operands write it: a shape and data."""
    return [], [number]


def vector(*numbers):
    return [len(numbers)], list(numbers)


def empty(*extents):
    """An array of which one extent or more is 0."""
    return list(extents), []


def listed(answer):
    """What a call gives back: answer is a refusal's number, or a shape and data."""
    if isinstance(answer, int):
        return [answer]
    shape, data = answer
    return [0, len(shape)] + list(shape) + [len(data)] + list(data)


class CallTest(unittest.TestCase):
    def expect(self, call, arguments, answer):
        """The call answers so, asked twice; it changes nothing and gives back whole numbers."""
        handed = copy.deepcopy(arguments)
        first = call(*handed)
        self.assertEqual(first, answer, repr(arguments))
        self.assertIs(type(first), list)
        for number in first:
            self.assertIs(type(number), int)
        self.assertEqual(handed, arguments)
        # What was given back is the caller's: to change it changes no later answer.
        first.append(0)
        self.assertEqual(handed, arguments)
        self.assertEqual(call(*handed), answer)


class OneTest(CallTest):
    def expect_one(self, text, shape, data, answer):
        """answer: a refusal's number, or a shape and data."""
        self.expect(ranks.one, [coded(text), shape, data], listed(answer))

    def expect_rows(self, rows):
        for text, shape, data, answer in rows:
            self.expect_one(text, shape, data, answer)


class TwoTest(CallTest):
    def expect_two(self, text, x, y, answer):
        """x and y: each a shape and data; answer: a refusal's number, or a shape and data."""
        self.expect(ranks.two, [coded(text), *x, *y], listed(answer))

    def expect_rows(self, rows):
        for text, x, y, answer in rows:
            self.expect_two(text, x, y, answer)


class TallyTest(CallTest):
    def expect_tally(self, call, arguments, answer):
        """answer: a refusal's number, or how often the base function was worked."""
        self.expect(call, arguments, [answer] if answer < 0 else [0, answer])

    def expect_tally1(self, text, shape, data, answer):
        self.expect_tally(ranks.tally1, [coded(text), shape, data], answer)

    def expect_tally2(self, text, x, y, answer):
        self.expect_tally(ranks.tally2, [coded(text), *x, *y], answer)
