import unittest

from rankedfunctions import ranks
from calls import LONG, CallTest, coded
from texts import BASES, BLANKS, DIGITS, FAULTS, LETTERS, LONGS, MODIFIERS, PLAINS, combined_texts, told


class WhereTest(CallTest):
    def expect_answer(self, text, answer):
        f = coded(text) if isinstance(text, str) else text
        self.expect(ranks.where, [f], [answer])

    def expect_behind(self, text, answer_of):
        """For each byte behind the text."""
        for byte in range(256):
            self.expect_answer(coded(text) + [byte], answer_of(byte))

    def test_each_base_function(self):
        self.assertEqual(len(set(BASES)), 34)
        for base in BASES:
            self.expect_answer(base, 0)

    def test_each_base_function_with_each_modifier(self):
        for base in BASES:
            for modifier in MODIFIERS:
                self.expect_answer(base + modifier, 0)

    def test_each_modifier_behind_each(self):
        for first in MODIFIERS:
            for second in MODIFIERS:
                self.expect_answer("Join" + first + second, 0)

    def test_each_base_function_with_other_case(self):
        for base in BASES:
            if base.isalpha():
                self.expect_answer(base.lower(), 1)
                self.expect_answer(base.upper(), 1)
                self.expect_answer(base[:-1], 1)
                self.expect_answer(base + "s", 1)

    def test_functions(self):
        for text, plain in PLAINS:
            self.expect_answer(text, 0)
            self.expect_answer(plain, 0)

    def test_faults(self):
        for text, answer in FAULTS:
            self.expect_answer(text, answer)

    def test_blanks_of_each_kind(self):
        for blank in BLANKS:
            gap = [blank]
            self.expect_answer(gap, 2)
            self.expect_answer(gap * 3, 4)
            self.expect_answer(gap + coded("+"), 0)
            self.expect_answer(coded("+") + gap, 0)
            self.expect_answer(coded("+") + gap + coded(":fold") + gap + coded(":at") + gap + coded("5") + gap, 0)
            self.expect_answer(coded("+:at") + gap + coded("6"), 6)
            self.expect_answer(coded("+:") + gap + coded("at 5"), 2)
            self.expect_answer(coded("A") + gap + coded("bs"), 1)
            self.expect_answer(coded("<") + gap + coded("="), 3)
            self.expect_answer(coded("+:at 1") + gap + coded("0"), 8)

    def test_long(self):
        for text in LONGS:
            self.expect_answer(text, LONG)

    def test_just_long_enough(self):
        self.expect_answer("+" + " " * 255, 0)
        self.expect_answer("+" + " " * 256, LONG)
        self.expect_answer("?" * 256, 1)
        self.expect_answer("?" * 257, LONG)

    def test_each_byte_first(self):
        def answer_of(byte):
            if byte in coded("+-*<="):
                return 0
            return 2 if byte in BLANKS else 1
        self.expect_behind("", answer_of)

    def test_each_byte_behind_a_sign(self):
        self.expect_behind("+", lambda byte: 0 if byte in BLANKS else 2)

    def test_each_byte_behind_a_sign_that_may_go_on(self):
        self.expect_behind("<", lambda byte: 0 if byte in BLANKS + (61,) else 2)
        self.expect_behind("/", lambda byte: 0 if byte == 61 else 1)

    def test_each_byte_behind_a_word(self):
        def answer_of(byte):
            if byte in BLANKS:
                return 0
            return 1 if byte in LETTERS else 4
        self.expect_behind("Abs", answer_of)

    def test_each_byte_behind_a_colon(self):
        self.expect_behind("+:", lambda byte: 2)

    def test_each_byte_behind_a_modifier_word(self):
        def answer_of(byte):
            if byte in BLANKS:
                return 0
            return 2 if byte in LETTERS else 7
        self.expect_behind("+:fold", answer_of)

    def test_each_byte_behind_at(self):
        def answer_of(byte):
            if byte in BLANKS:
                return 6
            if byte in coded("012345"):
                return 0
            return 2 if byte in LETTERS else 5
        self.expect_behind("+:at", answer_of)

    def test_each_byte_behind_a_number(self):
        def answer_of(byte):
            if byte in BLANKS:
                return 0
            return 6 if byte in DIGITS else 7
        self.expect_behind("+:at 3", answer_of)

    def test_each_modifier_as_the_eighth_and_the_ninth(self):
        for modifier in MODIFIERS:
            eight = "+" + ":swap" * 7 + modifier
            self.expect_answer(eight, 0)
            self.expect_answer(eight + modifier, len(eight) + 1)
            self.expect_answer(eight + " " + modifier, len(eight) + 2)

    def test_all_that_few_pieces_make(self):
        for text in combined_texts():
            self.assertEqual(ranks.where(coded(text)), [told(text)[0]], repr(text))


if __name__ == "__main__":
    unittest.main()
