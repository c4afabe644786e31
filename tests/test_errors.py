"""Point 20: the error classes."""

import inspect
import unittest

from heightgames import errors
from heightgames.errors import HeightError
from tests.samples import Checks, odd_values

FIELDS = {
    "Wrong": ["place"], "NoChooser": ["name"], "NoWay": ["name"], "NoStanding": ["standing"],
    "NoChange": ["change"], "NoLine": ["line"], "NoStep": ["index"], "Unlike": [], "NoSquare": ["square"],
    "NoRing": ["ring"], "NoHeight": [], "NoRoad": ["name"], "NoPair": ["pair"], "NoTies": [], "NoOrder": ["order"],
    "Untold": ["line"], "Clash": ["name"], "TooWide": [], "Nothing": [], "NoText": [], "Full": ["limit"],
    "NoCommand": [],
}


class Errors(Checks):
    def test_classes(self):
        self.assertIs(HeightError.__base__, ValueError)
        for name in FIELDS:
            self.assertEqual(getattr(errors, name).__bases__, (HeightError,))
            self.assertEqual(getattr(errors, name).__module__, "heightgames.errors")
        found = [name for name, thing in vars(errors).items() if inspect.isclass(thing)]
        self.assertEqual(sorted(found), sorted(list(FIELDS) + ["HeightError"]))

    def test_arguments_are_kept(self):
        for name, fields in FIELDS.items():
            for value in odd_values():
                error = getattr(errors, name)(*[value] * len(fields))
                self.assertEqual(sorted(vars(error)), fields)
                for field in fields:
                    self.assertIs(getattr(error, field), value)

    def test_arguments_are_not_copied(self):
        place = [1]
        error = errors.Wrong(place)
        place.append(2)
        self.assertIs(error.place, place)

    def test_signatures(self):
        for name, fields in FIELDS.items():
            made = getattr(errors, name)
            if fields:
                self.assertEqual(list(inspect.signature(made).parameters), fields)
                self.assertRaises(TypeError, made)
            else:
                self.assertEqual(vars(made()), {})

    def test_they_are_caught_as_what_they_are(self):
        for name, fields in FIELDS.items():
            for kind in (getattr(errors, name), HeightError, ValueError):
                with self.assertRaises(kind):
                    raise getattr(errors, name)(*fields)


if __name__ == "__main__":
    unittest.main()
