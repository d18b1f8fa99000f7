"""The error classes of the interface."""

import unittest

from hymnplates import errors

VALUE_ERRORS = """InvalidFont InvalidTurns InvalidKind InvalidPlates InvalidSigns InvalidWants InvalidRow InvalidNumber
InvalidWorths InvalidPrices InvalidHung InvalidCosts InvalidChurches InvalidWays InvalidBearings InvalidLine"""

# From each name to the built-in class above it and its fields.
LISTED = {name: (ValueError, ("value",)) for name in VALUE_ERRORS.split()}
LISTED.update({
    "InvalidGets": (ValueError, ("index",)),
    "InvalidText": (ValueError, ("line",)),
    "InvalidEdit": (ValueError, ("index",)),
    "OtherFont": (ValueError, ()),
    "UnknownSign": (KeyError, ("value",)),
    "OutOfRange": (IndexError, ("value",)),
    "Lacking": (LookupError, ("lack",)),
    "Unhung": (LookupError, ("index", "lack")),
    "NoBearing": (LookupError, ("lack",)),
    "TooMany": (OverflowError, ("value",)),
    "TooFew": (ArithmeticError, ("value",)),
})

VALUES = [0, -1, 10 ** 99, True, None, "", "0-", (), ("0", 1), ["0"], {"0": [1]}, object()]


class ErrorsTest(unittest.TestCase):

    def test_just_the_listed_classes_are_defined(self):
        defined = {name for name, value in vars(errors).items() if isinstance(value, type)}
        self.assertEqual(defined, set(LISTED))

    def test_each_is_below_its_builtin_class_and_below_no_other_one(self):
        for name, (above, _) in LISTED.items():
            with self.subTest(name):
                error = getattr(errors, name)
                self.assertEqual(error.__bases__, (above,))
                self.assertEqual(error.__mro__[1:], above.__mro__)
                self.assertEqual(error.__module__, "hymnplates.errors")

    def test_fields_by_position(self):
        for name, (_, fields) in LISTED.items():
            for value in VALUES:
                with self.subTest(name, value=value):
                    values = [value, [value]][:len(fields)]
                    self.check_fields(getattr(errors, name)(*values), fields, values)

    def test_fields_by_name(self):
        for name, (_, fields) in LISTED.items():
            for value in VALUES:
                with self.subTest(name, value=value):
                    values = [value, [value]][:len(fields)]
                    named = dict(reversed(list(zip(fields, values))))
                    self.check_fields(getattr(errors, name)(**named), fields, values)

    def check_fields(self, error, fields, values):
        self.assertEqual(set(vars(error)), set(fields))
        for field, value in zip(fields, values):
            self.assertIs(getattr(error, field), value)

    def test_a_field_is_needed(self):
        for name, (_, fields) in LISTED.items():
            if fields:
                with self.subTest(name), self.assertRaises(TypeError):
                    getattr(errors, name)()

    def test_they_are_caught_as_what_they_are(self):
        with self.assertRaises(KeyError):
            raise errors.UnknownSign("x")
        with self.assertRaises(IndexError):
            raise errors.OutOfRange(3)
        with self.assertRaises(ArithmeticError):
            raise errors.TooFew("00")
        self.assertFalse(issubclass(errors.TooFew, OverflowError))
        self.assertFalse(issubclass(errors.Lacking, (KeyError, IndexError)))
        self.assertFalse(issubclass(errors.Unhung, (KeyError, IndexError)))
        self.assertFalse(issubclass(errors.NoBearing, (KeyError, IndexError)))


if __name__ == "__main__":
    unittest.main()
