"""Integers, what may stand where a list is described, and how integers are written."""

import unittest

from hymnplates.checks import GREATEST, is_listed, is_number, is_numeral, is_table
from hymnplates.cases import Case
from support import strange_values


class ChecksTest(unittest.TestCase):

    def test_integers_within_bounds(self):
        for value in strange_values():
            inside = type(value) is int and -1 <= value <= 10 ** 30
            self.assertIs(is_number(value, -1, 10 ** 30), inside)
        self.assertEqual([is_number(value, 2, 4) for value in range(7)], [False, False, True, True, True, False, False])

    def test_true_and_false_are_no_integers(self):
        self.assertEqual([is_number(True, 0, 1), is_number(False, 0, 1)], [False, False])

    def test_integers_without_a_greatest_one(self):
        for value in strange_values() + [10 ** 200]:
            self.assertIs(is_number(value, 1), type(value) is int and value >= 1)

    def test_the_greatest_count(self):
        self.assertEqual([GREATEST, Case.MAX_COUNT], [10 ** 30, 10 ** 30])

    def test_tables(self):
        names = ["0", "06"]
        for table in [{}, {"0": 0}, {"06": 7, "0": 10 ** 30}]:
            self.assertEqual([is_table(table, names), is_table(table, names, 10 ** 30)], [True, True])
        self.assertEqual([is_table({"0": 8}, names), is_table({"0": 8}, names, 7)], [True, False])
        for value in [{"6": 1}, {"": 1}, {"0": -1}, {"0": True}, {"0": None}, {0: 1}, {("0",): 1}, [("0", 1)]]:
            self.assertIs(is_table(value, names), False)
        for value in strange_values():
            self.assertIs(is_table(value, names), value in ({"0": 1}, {"06": 2}))

    def test_lists_and_tuples_stand_where_a_list_is_described(self):
        for value in strange_values():
            self.assertIs(is_listed(value), type(value) in (list, tuple))

    def test_written_integers(self):
        for word in ["0", "1", "9", "10", "987", "1000"]:
            self.assertIs(is_numeral(word, 4), True)
        for word in ["", "00", "01", "0001", "-1", "+1", "1_0", "1 ", " 1", "1.", "a", "\u0661", "12345", "0" * 5000]:
            self.assertIs(is_numeral(word, 4), False)


if __name__ == "__main__":
    unittest.main()
