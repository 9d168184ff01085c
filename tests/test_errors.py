"""Point 4 and the interface's part greywalk/errors.py."""

import unittest

from greywalk import errors

PLAIN = ("EmptySlot", "NoField", "Full", "NoName", "Sound")
OF_TEXTS = ("BadRow", "Twice", "NoHand", "NoSlot")
EVERY = ("GreyError", "TextError") + PLAIN + OF_TEXTS


def above(name):
    """The names of all classes of the module that a class stands under, itself among them."""
    if name in OF_TEXTS:
        return {name, "TextError", "GreyError"}
    return {name, "GreyError"}


def made(name):
    """An error of a class, made as the interface tells."""
    if name == "TextError" or name in OF_TEXTS:
        return getattr(errors, name)(3)
    return getattr(errors, name)("words")


class Standing(unittest.TestCase):
    def test_each_stands_under_just_those_that_are_told(self):
        for low in EVERY:
            for high in EVERY:
                with self.subTest(low=low, high=high):
                    stands = issubclass(getattr(errors, low), getattr(errors, high))
                    self.assertEqual(stands, high in above(low))

    def test_each_stands_straight_under_its_own_base(self):
        self.assertEqual(errors.GreyError.__bases__, (ValueError,))
        self.assertEqual(errors.TextError.__bases__, (errors.GreyError,))
        for name in PLAIN:
            self.assertEqual(getattr(errors, name).__bases__, (errors.GreyError,), name)
        for name in OF_TEXTS:
            self.assertEqual(getattr(errors, name).__bases__, (errors.TextError,), name)

    def test_none_stands_under_a_lookup_or_a_reckoning(self):
        for name in EVERY:
            for other in (LookupError, ArithmeticError, TypeError, AttributeError, UnicodeError):
                self.assertFalse(issubclass(getattr(errors, name), other), name)

    def test_each_bears_its_own_name(self):
        for name in EVERY:
            self.assertEqual(getattr(errors, name).__name__, name)


class Taken(unittest.TestCase):
    def test_each_is_taken_under_those_above_it_alone(self):
        for name in EVERY:
            for other in EVERY:
                with self.subTest(name=name, other=other):
                    taken = False
                    try:
                        try:
                            raise made(name)
                        except getattr(errors, other):
                            taken = True
                    except ValueError:
                        pass
                    self.assertEqual(taken, other in above(name))


class Rows(unittest.TestCase):
    def test_a_refusal_of_a_text_keeps_its_row(self):
        for name in ("TextError",) + OF_TEXTS:
            for row in (1, 2, 405, 10 ** 6):
                with self.subTest(name=name, row=row):
                    error = getattr(errors, name)(row)
                    self.assertEqual(error.row, row)
                    self.assertIs(type(error.row), int)

    def test_the_row_is_there_when_the_refusal_is_taken(self):
        with self.assertRaises(errors.GreyError) as taken:
            raise errors.NoHand(12)
        self.assertEqual(taken.exception.row, 12)

    def test_each_refusal_has_a_row_of_its_own(self):
        first = errors.BadRow(1)
        second = errors.BadRow(2)
        self.assertEqual((first.row, second.row), (1, 2))

    def test_other_refusals_have_no_row(self):
        for name in ("GreyError",) + PLAIN:
            self.assertFalse(hasattr(made(name), "row"), name)


if __name__ == "__main__":
    unittest.main()
