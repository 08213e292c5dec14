"""The errors of cordrules/errors.py."""

import copy
import unittest

from cordrules import errors

FIELDS = {
    "BadCords": ("value",), "BadRow": ("number",), "BadCustom": ("word",), "BadRule": ("place",),
    "BadColours": ("number",), "BadForm": ("place",), "BadBook": ("number",), "BadSeen": ("number",),
    "BadLots": ("number",), "BadNumber": ("value",), "BadPaper": ("word",), "BadWords": ("line", "word"),
    "BadName": ("name",), "NothingBack": (), "TooGreat": ("most",)}


class TestErrors(unittest.TestCase):
    def test_cord_error_is_a_value_error_of_any_values(self):
        self.assertTrue(issubclass(errors.CordError, ValueError))
        for values in ((), (1,), (None, "two", [3]), ((), {}, object())):
            self.assertIsInstance(errors.CordError(*values), ValueError)

    def test_direct_subclasses(self):
        found = {subclass.__name__ for subclass in errors.CordError.__subclasses__()}
        self.assertEqual(found, set(FIELDS))
        for name in FIELDS:
            self.assertEqual(getattr(errors, name).__bases__, (errors.CordError,))

    def test_fields_are_the_very_values(self):
        for name, fields in FIELDS.items():
            for thing in (None, True, 3, "word", [], (1, [2]), object()):
                values = [thing, (thing,)][:len(fields)]
                error = getattr(errors, name)(*values)
                named = getattr(errors, name)(**dict(zip(fields, values)))
                for field, value in zip(fields, values):
                    self.assertIs(getattr(error, field), value)
                    self.assertIs(getattr(named, field), value)
                self.assertIsInstance(str(error), str)

    def test_each_takes_just_its_fields(self):
        for name, fields in FIELDS.items():
            with self.assertRaises(TypeError):
                getattr(errors, name)(*range(len(fields) + 1))
            if fields:
                with self.assertRaises(TypeError):
                    getattr(errors, name)(*range(len(fields) - 1))

    def test_copies(self):
        self.assertEqual(copy.copy(errors.BadWords(3, 4)).word, 4)
        self.assertEqual(copy.copy(errors.BadRow(5)).number, 5)


if __name__ == "__main__":
    unittest.main()
