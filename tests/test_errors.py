"""The errors, points 1.1 and 1.2."""

import unittest

from grownquorums import errors
from tests import plain

WITH_MESSAGE = (
    "InvalidSet", "InvalidRule", "InvalidBook", "InvalidCamp", "InvalidSeat", "InvalidPaper", "InvalidOperation",
)

# Each error that keeps something: its direct base, and the attribute.
KEEPING = {
    "UnknownName": (KeyError, "word"),
    "NoQuorum": (LookupError, "sought"),
    "InvalidNumber": (IndexError, "value"),
    "NothingToUndo": (RuntimeError, "many"),
    "TooMany": (OverflowError, "limit"),
    "Refused": (ArithmeticError, "reason"),
}


class Bases(unittest.TestCase):
    def test_council_error(self):
        self.assertEqual(errors.CouncilError.__bases__, (ValueError,))

    def test_directly_from_council_error(self):
        for name in WITH_MESSAGE + ("ParseError",):
            self.assertEqual(getattr(errors, name).__bases__, (errors.CouncilError,), name)

    def test_directly_from_errors_of_python(self):
        for name, (base, _) in KEEPING.items():
            self.assertEqual(getattr(errors, name).__bases__, (base,), name)

    def test_defined_in_errors(self):
        for name in WITH_MESSAGE + tuple(KEEPING) + ("CouncilError", "ParseError"):
            self.assertEqual(getattr(errors, name).__module__, "grownquorums.errors")


class Kept(unittest.TestCase):
    def test_messages(self):
        for name in WITH_MESSAGE + ("CouncilError",):
            error = getattr(errors, name)
            with self.assertRaises(error):
                raise error("what is wrong")

    def test_parse_error_keeps_an_index_or_none(self):
        for number in (None, 0, 1, 12, 10 ** 399):
            error = errors.ParseError(number)
            self.assertIs(error.number, number)

    def test_errors_keep_values_of_any_kind(self):
        values = plain.ODD_VALUES + plain.LONG_INTEGERS + (True, False, 0, -3, "t", ("s", "t"))
        for name, (_, attribute) in KEEPING.items():
            for value in values:
                error = getattr(errors, name)(value)
                self.assertIs(getattr(error, attribute), value, name)

    def test_parameters_have_the_names_of_the_attributes(self):
        for name, (_, attribute) in KEEPING.items():
            error = getattr(errors, name)(**{attribute: 5})
            self.assertEqual(getattr(error, attribute), 5)
        self.assertEqual(errors.ParseError(number=5).number, 5)

    def test_kept_values_are_caught_with_the_error(self):
        with self.assertRaises(KeyError) as caught:
            raise errors.UnknownName(("a", 1))
        self.assertEqual(caught.exception.word, ("a", 1))


if __name__ == "__main__":
    unittest.main()
