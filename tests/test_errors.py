"""The errors: their family and their fields."""

import unittest

from dotread import errors
from tests.things import Hostile

FIELDS = {
    "NoPicture": None, "NoPlace": None, "NoShape": "at", "NoSign": "sign", "NoWord": "word", "NoReading": None,
    "NoTable": None, "NoLine": None, "NoDeed": "at", "NoBack": None, "TooMany": "most", "NoText": "at",
}


class Errors(unittest.TestCase):

    def test_family(self):
        self.assertEqual(errors.DotError.__bases__, (ValueError,))
        for name in FIELDS:
            self.assertEqual(getattr(errors, name).__bases__, (errors.DotError,), name)

    def test_no_other_class(self):
        classes = [name for name, thing in vars(errors).items() if isinstance(thing, type)]
        self.assertEqual(sorted(classes), sorted([*FIELDS, "DotError"]))
        for name in classes:
            self.assertEqual(getattr(errors, name).__module__, "dotread.errors")

    def test_fields_by_place_and_by_name(self):
        for name, field in FIELDS.items():
            kind = getattr(errors, name)
            if field is None:
                self.assertEqual(vars(kind()), {})
                continue
            for thing in (0, -1, 16, "a", None, True, [1], Hostile()):
                by_place = kind(thing)
                by_name = kind(**{field: thing})
                self.assertIs(getattr(by_place, field), thing)
                self.assertIs(getattr(by_name, field), thing)
                self.assertEqual(list(vars(by_place)), [field])
            with self.assertRaises(TypeError):
                kind()

    def test_caught_as_their_family(self):
        for name, field in FIELDS.items():
            kind = getattr(errors, name)
            for family in (kind, errors.DotError, ValueError):
                with self.assertRaises(family):
                    raise (kind() if field is None else kind(3))


if __name__ == "__main__":
    unittest.main()
