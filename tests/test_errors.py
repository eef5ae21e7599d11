"""The classes of errors: point [4] and the interface."""

import inspect
import unittest

from braidwords import errors
from helper import ANYTHING, Case

BASES = {"NotRight": ValueError, "NotKnown": LookupError, "NotPossible": ArithmeticError}

# Each class: its base class and its attributes in order.
CLASSES = {
    **{name: ("NotRight", ["given"]) for name in (
        "InvalidText", "InvalidNumber", "InvalidName", "InvalidIndex", "InvalidWord", "InvalidLetter",
        "InvalidLot", "InvalidClaim", "InvalidCommand", "NotMirrors",
    )},
    **{name: ("NotRight", ["index"]) for name in (
        "InvalidAngles", "InvalidRow", "InvalidRows", "InvalidUnknown", "InvalidTold",
    )},
    "UnknownName": ("NotKnown", ["given"]),
    "InUse": ("NotKnown", ["index"]),
    "NothingToUndo": ("NotKnown", []),
    "NotAlike": ("NotPossible", ["letter"]),
    "NotShortest": ("NotPossible", ["indexes"]),
    "NoMove": ("NotPossible", []),
    "TooMany": ("NotPossible", ["most"]),
    "Broken": ("NotPossible", ["index", "shown"]),
}


class ErrorsTest(Case):
    def test_no_others(self):
        told = [name for name, value in vars(errors).items() if inspect.isclass(value)]
        self.assertEqual(sorted(told), sorted([*BASES, *CLASSES]))

    def test_bases(self):
        for name, builtin in BASES.items():
            self.assertEqual(getattr(errors, name).__bases__, (builtin,))

    def test_each_has_one_base(self):
        for name, (base, _) in CLASSES.items():
            self.assertEqual(getattr(errors, name).__bases__, (getattr(errors, base),), name)

    def test_each_is_caught_by_its_bases_and_no_other(self):
        for name, (base, attributes) in CLASSES.items():
            error = getattr(errors, name)(*attributes)
            for other, builtin in BASES.items():
                self.assertEqual(isinstance(error, getattr(errors, other)), other == base, name)
                self.assertEqual(isinstance(error, builtin), other == base, name)

    def test_parameters(self):
        for name, (_, attributes) in CLASSES.items():
            made = getattr(errors, name)
            self.is_listed(made, "braidwords.errors", attributes)
            self.assertIn("__init__", vars(made))

    def test_attributes_by_position_and_by_name(self):
        for name, (_, attributes) in CLASSES.items():
            made = getattr(errors, name)
            for k, value in enumerate(ANYTHING):
                # The next value beside it, so that two attributes are not mixed up.
                values = [value, ANYTHING[k - 1]][:len(attributes)]
                pairs = dict(zip(attributes, values))
                for error in (made(*values), made(**pairs)):
                    self.assertEqual(list(vars(error)), attributes)
                    for attribute, told in pairs.items():
                        self.assertIs(getattr(error, attribute), told, name)

    def test_names_in_any_order(self):
        error = errors.Broken(shown="a", index=2)
        self.assertEqual((error.index, error.shown), (2, "a"))

    def test_wrong_numbers_of_attributes(self):
        for name, (_, attributes) in CLASSES.items():
            made = getattr(errors, name)
            with self.assertRaises(TypeError):
                made(*attributes, "more")
            if attributes:
                with self.assertRaises(TypeError):
                    made(*attributes[1:])

    def test_raised_and_caught(self):
        for name, (base, attributes) in CLASSES.items():
            self.refuses(getattr(errors, name), {x: x for x in attributes}, self.raising, name, attributes)
            with self.assertRaises(getattr(errors, base)):
                self.raising(name, attributes)

    def raising(self, name, attributes):
        raise getattr(errors, name)(*attributes)


if __name__ == "__main__":
    unittest.main()
