"""Points 5, 6 and 7, and the interface's part greywalk/figures.py."""

import unittest

from greywalk.figures import is_word, load_of, number_of

SIXTY = "1" + "0" * 59
NINES = "9" * 60
# From the blank to `~`, a tab and a line end: all the signs that a text may have.
SIGNS = [chr(code) for code in range(32, 127)] + ["\t", "\n"]
STRANGE = ["\r", "\x0b", "\x0c", "\x00", "\x7f", "\u00b2", "\u0663", "\uff11", "\u00e4", "\u0430", "\u2028"]


def spoiled(text, sign):
    """The texts with a sign put in at each place of a text."""
    return [text[:at] + sign + text[at:] for at in range(len(text) + 1)]


class Figures(unittest.TestCase):
    def number(self, text, expected, *most):
        answer = number_of(text, *most)
        self.assertEqual(answer, expected, text)
        if expected is not None:
            self.assertIs(type(answer), int)

    def load(self, text, expected):
        answer = load_of(text)
        self.assertEqual(answer, expected, text)
        if expected is not None:
            self.assertIs(type(answer), int)


class Numbers(Figures):
    def test_ordinary_numbers(self):
        for number in list(range(0, 1200)) + [9999, 10 ** 12, 10 ** 15, 1234567890]:
            self.number(str(number), number)

    def test_nought_is_one_figure(self):
        self.number("0", 0)
        for text in ("00", "000", "0" * 60):
            self.number(text, None)

    def test_no_nought_ahead(self):
        for text in ("01", "007", "0123456789", "0" + "9" * 59):
            self.number(text, None)

    def test_a_nought_within_and_behind(self):
        self.number("10", 10)
        self.number("1001", 1001)

    def test_sixty_figures_and_one_more(self):
        self.number("9" * 59, 10 ** 59 - 1)
        self.number(SIXTY, 10 ** 59)
        self.number(NINES, 10 ** 60 - 1)
        self.number(SIXTY + "0", None)
        self.number("9" * 61, None)
        self.number("1" * 10000, None)

    def test_the_empty_text(self):
        self.number("", None)
        self.number("", None, 0)

    def test_a_sign_ahead(self):
        for text in ("-1", "+1", "-0", "+0", "-", "+", "--1", "- 1", "\n", " ", "\t"):
            self.number(text, None)

    def test_one_sign_that_is_no_figure(self):
        for sign in SIGNS + STRANGE:
            if sign not in "0123456789":
                self.number(sign, None)
                for text in spoiled("42", sign) + spoiled("0", sign):
                    self.number(text, None)

    def test_other_ways_to_write_a_number(self):
        for text in ("1_000", "0x10", "1e3", "1.0", "1,000", "ten", "None", "True", "1-", "1+1"):
            self.number(text, None)


class Bounds(Figures):
    def test_left_out_or_none_is_no_bound(self):
        for text in ("0", "7", SIXTY, NINES):
            self.number(text, int(text))
            self.number(text, int(text), None)
            self.assertEqual(number_of(text, most=None), int(text))

    def test_the_number_itself_and_one_less_and_one_more(self):
        for number in (1, 9, 10, 999, 9999, 10 ** 12, 10 ** 15, 10 ** 60 - 1):
            self.number(str(number), number, number)
            self.number(str(number), None, number - 1)
            self.number(str(number), number, number + 1)

    def test_a_bound_of_nought(self):
        self.number("0", 0, 0)
        self.number("1", None, 0)
        self.number("0", 0, 1)
        self.number("0", None, -1)

    def test_a_bound_takes_no_other_text(self):
        for text in ("", "00", "01", "-1", " 1", "1\n", "9" * 61):
            self.number(text, None, 10 ** 70)

    def test_the_bound_by_its_name(self):
        self.assertEqual(number_of(text="12", most=12), 12)
        self.assertIsNone(number_of(text="13", most=12))


class Loads(Figures):
    def test_what_number_of_takes(self):
        for text in ("0", "1", "10", "999", SIXTY, NINES):
            self.load(text, int(text))

    def test_below_nought(self):
        for number in (1, 2, 9, 10, 107, 10 ** 12):
            self.load("-" + str(number), -number)

    def test_nought_has_no_sign(self):
        for text in ("-0", "-00", "-01", "-007", "00", "01"):
            self.load(text, None)

    def test_the_sign_alone_and_twice_and_elsewhere(self):
        for text in ("-", "--", "--1", "---1", "--0", "1-", "1-1", "-1-", "-1-1", "-+1", "+-1", "+1", "+"):
            self.load(text, None)

    def test_sixty_figures_and_one_more(self):
        self.load("-" + "9" * 59, 1 - 10 ** 59)
        self.load("-" + SIXTY, -(10 ** 59))
        self.load("-" + NINES, 1 - 10 ** 60)
        self.load("-" + SIXTY + "0", None)
        self.load("-" + "9" * 61, None)
        self.load("9" * 61, None)

    def test_the_empty_text(self):
        self.load("", None)

    def test_one_sign_that_is_no_figure(self):
        for sign in SIGNS + STRANGE:
            if sign not in "-0123456789":
                self.load(sign, None)
                for text in spoiled("42", sign) + spoiled("-42", sign):
                    self.load(text, None)

    def test_another_sign_that_looks_like_the_one_below_nought(self):
        for sign in ("\u2212", "\u2013", "\u00ad", "~", "_"):
            self.load(sign + "1", None)


class Words(unittest.TestCase):
    def word(self, text, expected):
        self.assertIs(is_word(text), expected, text)

    def test_each_letter(self):
        for letter in "abcdefghijklmnopqrstuvwxyz":
            self.word(letter, True)

    def test_every_other_sign_at_any_place(self):
        for sign in SIGNS + STRANGE:
            if sign not in "abcdefghijklmnopqrstuvwxyz":
                self.word(sign, False)
                for text in spoiled("word", sign):
                    self.word(text, False)

    def test_lengths(self):
        self.word("", False)
        for many in range(1, 13):
            self.word("z" * many, True)
        self.word("abcdefghijkl", True)
        self.word("abcdefghijklm", False)
        for many in (13, 14, 60, 10000):
            self.word("a" * many, False)

    def test_capital_letters(self):
        for text in ("A", "Z", "Ann", "anN", "aNn", "ANN"):
            self.word(text, False)

    def test_a_line_end_at_any_place(self):
        for text in ("\n", "ann\n", "\nann", "an\nn", "a" * 12 + "\n", "a" * 11 + "\n"):
            self.word(text, False)

    def test_other_words(self):
        for text in ("ann", "sweep", "old", "none"):
            self.word(text, True)
        for text in ("ann bob", "ann1", "1ann", "a-b", "a_b", "\u00e4rger", "stra\u00dfe"):
            self.word(text, False)


if __name__ == "__main__":
    unittest.main()
