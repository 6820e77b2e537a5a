"""Promises [2] and [3]: the classes of the errors and their fields."""

from backafter import errors
from tests.cases import BIG, Case

WITH_A_STRING = [
    "NoRow", "NoSeries", "NoStep", "NoPower", "NoHole", "NoShuffle", "NoMany", "NoTimes", "TooMany", "NoNumber",
    "NoChange", "NotThere", "NoTable", "NoCount", "NothingToUndo", "NoOrder",
]
WITH_A_FIELD = [("Barred", "n"), ("NoCounts", "index"), ("NotWhole", "n"), ("NoTerm", "index"), ("NoText", "index")]


class ErrorsTest(Case):

    def test_row_error_is_a_value_error(self):
        self.assertEqual(errors.RowError.__bases__, (ValueError,))
        self.assertEqual(str(errors.RowError("some words")), "some words")

    def test_each_is_a_direct_subclass_of_row_error(self):
        for name in WITH_A_STRING + [name for name, _ in WITH_A_FIELD]:
            kind = getattr(errors, name)
            self.assertEqual(kind.__bases__, (errors.RowError,), name)
            self.assertEqual((kind.__name__, kind.__module__), (name, "backafter.errors"))

    def test_each_without_fields_takes_one_string(self):
        for name in WITH_A_STRING:
            kind = getattr(errors, name)
            self.assertEqual(str(kind("some words")), "some words")
            with self.assertRaises(errors.RowError):
                raise kind("some words")
            with self.assertRaises(ValueError):
                raise kind("")

    def test_fields_are_stored_whatever_they_are(self):
        for name, field in WITH_A_FIELD:
            kind = getattr(errors, name)
            for value in [0, 1, -5, BIG, None, True, "", "n", (), (1, 2), [], [3], {}, object(), kind]:
                self.assertIs(getattr(kind(value), field), value)
                self.assertIs(getattr(kind(**{field: value}), field), value)

    def test_fields_can_be_read_of_what_is_caught(self):
        for name, field in WITH_A_FIELD:
            kind = getattr(errors, name)
            with self.assertRaises(errors.RowError) as caught:
                raise kind(17)
            self.assertIs(type(caught.exception), kind)
            self.assertEqual(getattr(caught.exception, field), 17)

    def test_two_errors_have_fields_of_their_own(self):
        one, two = errors.Barred(1), errors.Barred(2)
        self.assertEqual((one.n, two.n), (1, 2))
