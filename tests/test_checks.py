"""Integers, what may stand where a list is described, and how integers are written."""

import unittest

from hymnplates.checks import is_listed, is_number, is_numeral
from support import strange_values


class ChecksTest(unittest.TestCase):

    def test_integers_within_bounds(self):
        for value in strange_values():
            inside = type(value) is int and -1 <= value <= 10 ** 30
            self.assertIs(is_number(value, -1, 10 ** 30), inside)
        self.assertEqual([is_number(value, 2, 4) for value in range(7)], [False, False, True, True, True, False, False])

    def test_true_and_false_are_no_integers(self):
        self.assertEqual([is_number(True, 0, 1), is_number(False, 0, 1)], [False, False])

    def test_lists_and_tuples_stand_where_a_list_is_described(self):
        for value in strange_values():
            self.assertIs(is_listed(value), type(value) in (list, tuple))

    def test_written_integers(self):
        for word in ["0", "1", "9", "10", "987", "1000"]:
            self.assertIs(is_numeral(word, 4), True)
        for word in ["", "00", "01", "0001", "-1", "+1", "1_0", "1 ", " 1", "1.", "a", "\u0661", "12345", "0" * 5000]:
            self.assertIs(is_numeral(word, 4), False)


if __name__ == "__main__":
    unittest.main()
