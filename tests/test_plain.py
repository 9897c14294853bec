import unittest

from rankedfunctions import ranks
from calls import FUNCTION, LONG, CallTest, coded
from texts import BASES, BLANKS, FAULTS, LONGS, MODIFIERS, PLAINS, combined_texts, told


class PlainTest(CallTest):
    def expect_answer(self, f, answer):
        self.expect(ranks.plain, [f], answer)

    def expect_plain(self, text, plain):
        self.expect_answer(coded(text), [0] + coded(plain))

    def test_each_base_function(self):
        for base in BASES:
            self.expect_plain(base, base)
            self.expect_plain("  " + base + "\n", base)

    def test_each_base_function_with_each_modifier(self):
        for base in BASES:
            for modifier in MODIFIERS:
                self.expect_plain(base + modifier, base + modifier)
                self.expect_plain(base + " " + modifier + " ", base + modifier)

    def test_each_modifier_behind_each(self):
        for first in MODIFIERS:
            for second in MODIFIERS:
                plain = "Join" + first + second
                self.expect_plain(plain, plain)
                self.expect_plain("Join\t" + first + "\r\n" + second, plain)

    def test_functions(self):
        for text, plain in PLAINS:
            self.expect_plain(text, plain)
            self.expect_plain(plain, plain)

    def test_blanks_of_each_kind(self):
        for blank in BLANKS:
            gap = [blank] * 2
            f = gap + coded("Mod") + gap + coded(":at") + gap + coded("2") + gap + coded(":scan") + gap
            self.expect_answer(f, [0] + coded("Mod:at 2:scan"))

    def test_the_longest_plain_text(self):
        longest = "Reshape" + ":table" * 8
        self.assertEqual(len(longest), 55)
        self.expect_plain(longest, longest)

    def test_no_functions(self):
        for text, place in FAULTS:
            self.expect_answer(coded(text), [FUNCTION])

    def test_no_function_of_one_byte(self):
        for byte in range(256):
            if byte not in coded("+-*<="):
                self.expect_answer([byte], [FUNCTION])

    def test_long(self):
        for text in LONGS:
            self.expect_answer(coded(text), [LONG])

    def test_just_long_enough(self):
        self.expect_plain("+:at" + " " * 251 + "5", "+:at 5")
        self.expect_answer(coded("+:at" + " " * 252 + "5"), [LONG])
        self.expect_answer(coded("?" * 256), [FUNCTION])
        self.expect_answer(coded("?" * 257), [LONG])

    def test_all_that_few_pieces_make(self):
        for text in combined_texts():
            plain = told(text)[1]
            answer = [FUNCTION] if plain is None else [0] + coded(plain)
            self.assertEqual(ranks.plain(coded(text)), answer, repr(text))


if __name__ == "__main__":
    unittest.main()
