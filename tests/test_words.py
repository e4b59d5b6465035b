import unittest

from usher.words import is_name, number_in

LETTERS = "abcdefghijklmnopqrstuvwxyz"
FIGURES = "0123456789"
PRINTED = [chr(code) for code in range(ord(" "), ord("~") + 1)]
# Signs that looser checks let through: row ends, other scripts' letters and figures.
ODD_SIGNS = ["\n", "\t", "\0", "\u00e9", "\u00b2", "\u0663", "\uff11", "\uff41"]


class NamesTest(unittest.TestCase):
    def assert_name(self, text):
        with self.subTest(text=text):
            self.assertIs(is_name(text), True)

    def assert_no_name(self, text):
        with self.subTest(text=text):
            self.assertIs(is_name(text), False)

    def test_one_sign(self):
        for sign in PRINTED + ODD_SIGNS:
            if sign in LETTERS:
                self.assert_name(sign)
            else:
                self.assert_no_name(sign)

    def test_each_length(self):
        for length in range(1, 9):
            self.assert_name("a" * length)
            self.assert_name("z9999999"[:length])
            self.assert_name("a1b2c3d4"[:length])
        for length in (0, 9, 10, 16, 200):
            self.assert_no_name("a" * length)
        self.assert_no_name("z99999999")

    def test_figure_first(self):
        for figure in FIGURES:
            self.assert_no_name(figure + "a")
            self.assert_no_name(figure + "bcdefgh")
            self.assert_name("a" + figure)

    def test_great_letters(self):
        for text in ("A", "Ab", "aB", "abC", "ABCDEFGH", "abcdefgH", "Z9"):
            self.assert_no_name(text)

    def test_each_sign_in_each_place(self):
        for length in (2, 3, 8):
            for place in range(length):
                for sign in PRINTED + ODD_SIGNS:
                    signs = ["a"] * length
                    signs[place] = sign
                    text = "".join(signs)
                    if sign in LETTERS or (sign in FIGURES and place > 0):
                        self.assert_name(text)
                    else:
                        self.assert_no_name(text)

    def test_signs_beyond_the_eighth_place(self):
        self.assert_no_name("abcdefgh ")
        self.assert_no_name("abcdefgh\n")
        self.assert_no_name(" abcdefgh")


class NumbersTest(unittest.TestCase):
    def assert_number(self, number, text, least, most):
        with self.subTest(text=text, least=least, most=most):
            told = number_in(text, least, most)
            self.assertIs(type(told), int)
            self.assertEqual(told, number)

    def assert_none(self, text, least=0, most=10 ** 9):
        with self.subTest(text=text, least=least, most=most):
            self.assertIsNone(number_in(text, least, most))

    def test_nought(self):
        self.assert_number(0, "0", 0, 10 ** 9)
        self.assert_number(0, "0", 0, 0)
        self.assert_none("0", 1, 20)

    def test_noughts_ahead(self):
        for text in ("00", "01", "001", "010", "000000000", "000000001", "012345678"):
            self.assert_none(text)

    def test_noughts_within_and_behind(self):
        self.assert_number(10, "10", 0, 10 ** 9)
        self.assert_number(100, "100", 0, 10 ** 9)
        self.assert_number(1001, "1001", 0, 10 ** 9)

    def test_each_figure(self):
        for place, figure in enumerate(FIGURES):
            self.assert_number(place, figure, 0, 10 ** 9)
            self.assert_number(10 + place, "1" + figure, 0, 10 ** 9)

    def test_each_length(self):
        for length in range(1, 10):
            text = "123456789"[:length]
            self.assert_number(int(text), text, 0, 10 ** 9)
        self.assert_number(999999999, "999999999", 0, 10 ** 9)
        self.assert_number(100000000, "100000000", 0, 10 ** 9)
        for text in ("1000000000", "1234567890", "9" * 10, "9" * 200):
            self.assert_none(text, 0, 10 ** 9)
            self.assert_none(text, 0, 10 ** 201)

    def test_empty_text(self):
        self.assert_none("")

    def test_other_signs_ahead_within_and_behind(self):
        for sign in PRINTED + ODD_SIGNS:
            if sign not in FIGURES:
                for text in (sign, sign + "1", "1" + sign, "1" + sign + "2", sign + "0", "0" + sign):
                    self.assert_none(text)

    def test_forms_that_int_takes(self):
        for text in ("+1", "-1", "-0", "+0", " 1", "1 ", " 1 ", "1_0", "1\n", "\u0661\u0662"):
            self.assert_none(text, -(10 ** 9), 10 ** 9)
        for text in ("1.0", "1e3", "0x1", "0b1", "1,000", "a", "one"):
            self.assert_none(text)

    def test_bounds(self):
        self.assert_none("4", 5, 7)
        self.assert_number(5, "5", 5, 7)
        self.assert_number(6, "6", 5, 7)
        self.assert_number(7, "7", 5, 7)
        self.assert_none("8", 5, 7)

    def test_bounds_of_unlike_length(self):
        # Compared as numbers, not as texts.
        self.assert_number(9, "9", 1, 20)
        self.assert_number(10, "10", 9, 20)
        self.assert_none("100", 2, 20)
        self.assert_none("21", 1, 20)
        self.assert_number(20, "20", 1, 20)
        self.assert_number(1, "1", 1, 20)

    def test_least_and_most_alike(self):
        self.assert_number(5, "5", 5, 5)
        self.assert_none("4", 5, 5)
        self.assert_none("6", 5, 5)

    def test_least_above_most(self):
        for text in ("4", "5", "6", "7", "8"):
            self.assert_none(text, 7, 5)
        self.assert_none("0", 1, 0)

    def test_greatest_bounds(self):
        self.assert_none("999999999", 10 ** 9, 10 ** 9)
        self.assert_none("999999999", 0, 999999998)
        self.assert_number(999999999, "999999999", 999999999, 10 ** 9)


if __name__ == "__main__":
    unittest.main()
