"""monicsums.errors."""

import unittest

from monicsums import errors

BARE = [
    errors.InvalidField, errors.InvalidPolynomial, errors.InvalidQuotient, errors.InvalidParting, errors.InvalidRow,
    errors.InvalidName, errors.InvalidOperation,
]
KEEPING = [
    (errors.ParseError, errors.MonicError, "spot"),
    (errors.InvalidNumber, IndexError, "given"),
    (errors.UnknownName, KeyError, "asked"),
    (errors.NothingToUndo, LookupError, "many"),
    (errors.TooMany, OverflowError, "limit"),
    (errors.Refused, ArithmeticError, "reason"),
]
VALUES = [None, 0, True, -1, 10 ** 219, 10 ** 5000, "text", "a % b {c}", (), ("zero",), [1, [2]], {"a": 1}, ((((),),),)]


class Errors(unittest.TestCase):
    def test_bases(self):
        self.assertEqual(errors.MonicError.__bases__, (ValueError,))
        for error in BARE:
            self.assertEqual(error.__bases__, (errors.MonicError,))
        for error, base, _ in KEEPING:
            self.assertEqual(error.__bases__, (base,))

    def test_what_is_kept(self):
        for error, _, word in KEEPING:
            for value in VALUES + [errors.TooMany(2)]:
                made = error(value)
                self.assertIs(getattr(made, word), value)
                self.assertIsInstance(str(made), str)

    def test_a_message_or_any_value(self):
        for error in BARE + [errors.MonicError]:
            self.assertEqual(str(error("told")), "told")
            for value in VALUES:
                with self.assertRaises(errors.MonicError):
                    raise error(value)

    def test_raised_and_caught_by_the_bases(self):
        for error, base, word in KEEPING:
            with self.assertRaises(base) as caught:
                raise error(7)
            self.assertEqual(getattr(caught.exception, word), 7)

    def test_what_they_take_is_needed(self):
        for error, _, _ in KEEPING:
            self.assertRaises(TypeError, error)
            self.assertRaises(TypeError, error, 1, 2)


if __name__ == "__main__":
    unittest.main()
