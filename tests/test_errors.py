"""The classes of errors."""

import unittest

from meetbehind import errors
from tests.samples import any_values

FIELDS = {
    "InvalidKind": "place", "InvalidPart": "index", "NoRealm": "index", "Taken": "index", "TooDeep": "index",
    "Needed": "name", "InvalidTarget": "target", "InvalidPort": "port", "InvalidName": "name", "InvalidTime": "time",
    "Clash": "number", "InvalidQuestion": "question", "InvalidEvent": "event", "InvalidText": "line word",
    "UnknownCommand": "command", "NoStation": "name", "NoRound": "number", "NothingToUndo": "count",
    "NotHeard": "host", "NotSeen": "name", "Heard": "number", "TooMany": "limit",
}
BASES = {"NoStation": KeyError, "NoRound": IndexError, "NothingToUndo": LookupError, "NotHeard": LookupError,
         "NotSeen": LookupError, "Heard": RuntimeError, "TooMany": OverflowError}


class ErrorsTest(unittest.TestCase):

    def test_bases(self):
        self.assertEqual(errors.MeetError.__bases__, (ValueError,))
        for name in FIELDS:
            self.assertEqual(getattr(errors, name).__bases__, (BASES.get(name, errors.MeetError),), name)

    def test_no_class_is_a_base_of_another_one(self):
        for one in FIELDS:
            for two in FIELDS:
                if one != two:
                    self.assertFalse(issubclass(getattr(errors, one), getattr(errors, two)))

    def test_lookup_errors_are_neither_key_nor_index_errors(self):
        for name in ("NothingToUndo", "NotHeard", "NotSeen"):
            self.assertFalse(issubclass(getattr(errors, name), (KeyError, IndexError)))

    def test_fields_by_position_and_by_name(self):
        for name, text in FIELDS.items():
            fields = text.split()
            for value in any_values():
                values = [value] + ["second"] * (len(fields) - 1)
                for error in (getattr(errors, name)(*values), getattr(errors, name)(**dict(zip(fields, values)))):
                    self.assertEqual(list(vars(error)), fields)
                    for field, kept in zip(fields, values):
                        self.assertIs(getattr(error, field), kept)

    def test_order_of_fields(self):
        error = errors.InvalidText(3, 4)
        self.assertEqual((error.line, error.word), (3, 4))

    def test_number_of_fields(self):
        for name, text in FIELDS.items():
            for many in (0, len(text.split()) + 1):
                with self.assertRaises(TypeError):
                    getattr(errors, name)(*range(many))

    def test_they_can_be_raised_and_caught_by_their_bases(self):
        for name, text in FIELDS.items():
            with self.assertRaises(BASES.get(name, ValueError)):
                raise getattr(errors, name)(*text.split())


if __name__ == "__main__":
    unittest.main()
