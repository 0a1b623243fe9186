"""The errors: the last row of point [2], and the interface."""

import unittest

from crossundo import errors
from tests.samples import Hostile

ATTRIBUTES = {
    "BadName": "name",
    "BadContent": "value",
    "BadEdits": "edits",
    "NoDocument": "document",
    "AlreadyOpen": "document",
    "DuplicateName": "name",
    "EditMismatch": "document",
    "NothingToUndo": "document",
    "NothingToRedo": "document",
    "NothingToForget": "document",
    "NoAction": "name",
    "AlreadyUndone": "name",
    "AlreadyDone": "name",
    "TooMany": "limit",
    "BadLog": "number",
    "BadText": "row",
    "BadCommand": "line",
    "Conflict": "document",
}


class ErrorsTest(unittest.TestCase):

    def test_undo_error_is_a_value_error(self):
        self.assertEqual(errors.UndoError.__bases__, (ValueError,))

    def test_all_nineteen_are_direct_subclasses(self):
        names = [*ATTRIBUTES, "BadJournals"]
        self.assertEqual(len(names), 19)
        for name in names:
            self.assertEqual(getattr(errors, name).__bases__, (errors.UndoError,), name)

    def test_there_are_no_others(self):
        found = {cls.__name__ for cls in errors.UndoError.__subclasses__()}
        self.assertEqual(found, {*ATTRIBUTES, "BadJournals"})

    def test_attribute_by_position_and_by_name(self):
        hostile = Hostile()
        for name, attribute in ATTRIBUTES.items():
            for value in ("a", 3, None, ("a", ["b"]), 10 ** 5000, hostile):
                made = getattr(errors, name)
                for error in (made(value), made(**{attribute: value})):
                    self.assertEqual(list(vars(error)), [attribute], name)
                    self.assertIs(getattr(error, attribute), value, name)
                    self.assertIsInstance(error, errors.UndoError)
                    self.assertIsInstance(error, ValueError)

    def test_the_attribute_is_required(self):
        for name in ATTRIBUTES:
            with self.assertRaises(TypeError, msg=name):
                getattr(errors, name)()

    def test_bad_journals_takes_nothing(self):
        error = errors.BadJournals()
        self.assertIsInstance(error, errors.UndoError)
        self.assertIsInstance(error, ValueError)
        self.assertEqual(vars(error), {})

    def test_raised_and_caught_by_the_common_class(self):
        for name, attribute in ATTRIBUTES.items():
            with self.assertRaises(errors.UndoError) as caught:
                raise getattr(errors, name)("a")
            self.assertEqual(getattr(caught.exception, attribute), "a")


if __name__ == "__main__":
    unittest.main()
