import itertools
import unittest

from calls import FUNCTION, LONG, CallTest, coded
from rankedfunctions import ranks
from texts import BASES, FAULTS, LONGS, PLAINS

ONES = "Abs Sign Not Shape Count Ravel Iota Flip Turn Grade Where First".split()
TWOS = "+ * Div Mod Min Max < <= = /= And Or Reshape Take Drop Rotate Join Pick Find Same Keep".split()
MAKING_BOTH = (":fold", ":scan", ":swap")
KEEPING = (":table", ":at 0", ":at 1", ":at 2", ":at 3", ":at 4", ":at 5")

CHAINS = (
    # behind a function that may not be used with two
    ("Abs:fold", 0),
    ("Abs:scan", 0),
    ("Abs:swap", 0),
    ("Abs:fold:fold", 0),
    ("Abs:fold:swap:scan", 0),
    ("Abs:table:fold", 0),
    ("Abs:at 1:swap", 0),
    ("Abs:swap:table", 0),
    ("Abs:swap:at 3", 0),
    ("Iota" + ":at 5" * 7 + ":scan", 0),
    ("Iota:scan" + ":at 5" * 7, 0),
    # behind each kind
    ("Abs:table", 1),
    ("Abs:at 2", 1),
    ("Abs:table:at 0:table", 1),
    ("Grade" + ":table" * 8, 1),
    ("+:table", 2),
    ("+:at 2", 2),
    ("+:table:at 0:table", 2),
    ("Join" + ":at 0" * 8, 2),
    ("-:table", 3),
    ("-:at 2", 3),
    ("-:table:at 0:table", 3),
    ("+:fold:table", 3),
    ("+:scan:at 4", 3),
    ("+:swap:table:at 4", 3),
    # behind a function that may be used with two
    ("+:fold", 3),
    ("-:fold", 3),
    ("+:table:fold", 3),
    ("+:at 1:scan", 3),
    ("+:swap:swap", 3),
    ("-:swap:swap", 3),
    ("+:fold:fold", 3),
    ("+:fold:scan:swap", 3),
    ("+" + ":fold" * 8, 3),
    ("Keep" + ":at 1" * 7 + ":swap", 3),
    # read with blanks
    (" Abs\n:swap ", 0),
    ("\tAbs :at\r4", 1),
    ("+ :at5", 2),
    ("+ :fold :at  0 ", 3),
)


class UsesTest(CallTest):
    def expect_uses(self, text, answer):
        self.expect(ranks.uses, [coded(text)], [answer])

    def test_each_base_function(self):
        self.assertEqual(sorted(ONES + TWOS + ["-"]), sorted(BASES))
        self.expect_uses("-", 3)
        for base in ONES:
            self.expect_uses(base, 1)
        for base in TWOS:
            self.expect_uses(base, 2)

    def test_each_modifier_behind_each_base_function(self):
        for modifier in MAKING_BOTH:
            self.expect_uses("-" + modifier, 3)
            for base in ONES:
                self.expect_uses(base + modifier, 0)
            for base in TWOS:
                self.expect_uses(base + modifier, 3)
        for modifier in KEEPING:
            self.expect_uses("-" + modifier, 3)
            for base in ONES:
                self.expect_uses(base + modifier, 1)
            for base in TWOS:
                self.expect_uses(base + modifier, 2)

    def test_chains(self):
        for text, answer in CHAINS:
            self.expect_uses(text, answer)

    def test_chains_of_two_and_three(self):
        for count in (2, 3):
            for modifiers in itertools.product(MAKING_BOTH + KEEPING[:2], repeat=count):
                behind = "".join(modifiers)
                made = any(modifier in MAKING_BOTH for modifier in modifiers)
                self.expect_uses("-" + behind, 3)
                self.expect_uses("First" + behind, 0 if made else 1)
                self.expect_uses("Pick" + behind, 3 if made else 2)

    def test_no_functions(self):
        for text, place in FAULTS:
            self.expect_uses(text, FUNCTION)

    def test_long(self):
        for text in LONGS:
            self.expect_uses(text, LONG)

    def test_just_long_enough(self):
        self.expect_uses("Abs" + " " * 253, 1)
        self.expect_uses("Abs" + " " * 254, LONG)
        self.expect_uses("?" * 256, FUNCTION)
        self.expect_uses("?" * 257, LONG)

    def test_functions_however_they_are_written(self):
        for text, plain in PLAINS:
            self.assertEqual(ranks.uses(coded(text)), ranks.uses(coded(plain)), text)
            self.assertIn(ranks.uses(coded(text)), ([0], [1], [2], [3]))


if __name__ == "__main__":
    unittest.main()
