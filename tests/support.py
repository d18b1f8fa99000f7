"""What the tests share: values of every kind, and a look at the very fields of an error."""

import unittest

from hymnplates.cases import Case
from hymnplates.chests import Chest
from hymnplates.fonts import Font
from hymnplates.wants import Wants

FONT = Font("0689", [("6", "9")])
# The same signs, other turns.
OTHER = Font("0689")
MOST = 10 ** 30
CASE = Case(FONT, [("69", 2), ("8-", 1), ("06", 1)])


def of(row):
    """The wants of a row."""
    return Wants.of(FONT, row)


def nested(depth):
    """Lists, tuples and dicts, so deep in each other."""
    value = "0"
    for level in range(depth):
        value = ([value], (value,), {"0": value})[level % 3]
    return value


def strange_values():
    """Values of every kind that may be passed; no font, kind, sign, set, list of plates or text is among them."""
    return [
        True, False, None, -1, 0, 1, 7, 10 ** 30, 10 ** 60, -10 ** 60, 10 ** 99,
        " ", "\n", "--", "A", "A0", "0 ", "zz", "0" * 4000, "x" * 4000,
        ["0"], ("0",), [["0", "6"]], ["06"], {"0": 1}, {"06": 2}, {1: {2: 3}}, {"signs": "06", "turns": ()},
        [None], (None,), [[]], ((),), nested(20), [nested(19)], (nested(19),),
        FONT, Case(FONT), [Case(FONT)], Wants.none(FONT), Chest(Case(FONT)), {"0": Wants.none(FONT)},
    ]


def no_numbers(least, greatest):
    """Values of every kind that are no integers from the least to the greatest, those beside the range among them."""
    values = strange_values() + [least - 1, greatest + 1, "1", "", 1.0, (1,), [1], {1: 1}, [[1]], str(least)]
    return [value for value in values if type(value) is not int or not least <= value <= greatest]


class PlatesTest(unittest.TestCase):
    """A test that can look at errors."""

    def assert_error(self, error, fields, action, *args, **named):
        """The action raises just this error, and its fields hold just these values."""
        with self.assertRaises(error) as caught:
            action(*args, **named)
        self.assertIs(type(caught.exception), error)
        self.assertEqual(list(vars(caught.exception)), list(fields))
        for name, value in fields.items():
            held = getattr(caught.exception, name)
            self.assertIs(type(held), type(value))
            if not isinstance(value, (str, int)):
                self.assertIs(held, value)
            self.assertEqual(held, value)

    def assert_value_error(self, error, value, action, *args, **named):
        """The same for an error with the one field `value`."""
        self.assert_error(error, {"value": value}, action, *args, **named)
