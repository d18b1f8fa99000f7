"""Rows of a length that hang, in order: promise 35."""

import itertools
import math
import random
import unittest

from hymnplates.cases import Case
from hymnplates.errors import InvalidNumber, InvalidRow, OutOfRange, TooMany
from hymnplates.fonts import Font, all_kinds, all_sets
from hymnplates.rows import count_rows, row_at, row_index
from hymnplates.wants import Wants
from searches import excess, large_cases, small_cases, ways_by_counts
from support import CASE, FONT, MOST, PlatesTest, no_numbers, strange_values

# From the number of signs to the greatest length without too many wants.
LENGTHS = {2: 60, 3: 60, 4: 20, 5: 12, 6: 8, 7: 7, 8: 6, 9: 5, 10: 4}


def full(signs):
    """A case in which all rows hang that may be asked for."""
    font = Font(signs)
    return Case(font, [(kind, MOST) for kind in all_kinds(font)])


class ExamplesTest(PlatesTest):

    def test_examples_of_the_document(self):
        case = Case(Font("01"), [("01", 1), ("0-", 1)])
        self.assertEqual([count_rows(case, 2), row_at(case, 2, 2), row_index(case, "10")], [3, "10", 2])
        self.assert_value_error(InvalidRow, "11", row_index, case, "11")


class SearchTest(PlatesTest):
    """All rows of small lengths, written out."""

    def test_rows_that_hang(self):
        for case in small_cases(41, 48):
            shown = ways_by_counts(case)
            for length in range(6):
                written = ["".join(row) for row in itertools.product(case.font.signs, repeat=length)]
                rows = [row for row in written if tuple(row.count(sign) for sign in case.font.signs) in shown]
                self.assertEqual(count_rows(case, length), len(rows))
                self.assertEqual([row_at(case, length, index) for index in range(len(rows))], rows)
                for row in written:
                    if row in rows:
                        self.assertEqual(row_index(case, row), rows.index(row))
                for row in random.Random(len(rows)).sample(written, min(20, len(written))):
                    if row not in rows:
                        self.assert_value_error(InvalidRow, row, row_index, case, row)
                for index in [-1, len(rows), len(rows) + 1]:
                    self.assert_value_error(OutOfRange, index, row_at, case, length, index)


class LargeTest(PlatesTest):

    def test_numbers_of_rows_against_sums_over_all_sets(self):
        chance = random.Random(42)
        for case in large_cases(43, 8, [Font("01"), Font("ba"), Font("012"), Font("069", [("6", "9")])]):
            case = Case(case.font, [(kind, chance.randrange(1, 40)) for kind in case.kinds])
            for length in [1, 17, 60]:
                number = self.plain_number(case, length)
                self.assertEqual(count_rows(case, length), number)
                self.check_rows(case, length, number, chance)

    def plain_number(self, case, length):
        number = 0
        for counts in itertools.product(range(length + 1), repeat=len(case.font) - 1):
            last = length - sum(counts)
            if last >= 0:
                wants = Wants(case.font, dict(zip(case.font.signs, (*counts, last))))
                if all(excess(case, wants, signs) <= 0 for signs in all_sets(case.font)):
                    orders = math.factorial(length)
                    for count in (*counts, last):
                        orders //= math.factorial(count)
                    number += orders
        return number

    def check_rows(self, case, length, number, chance):
        indexes = sorted({0, number - 1, number // 2, chance.randrange(number)} if number else [])
        rows = [row_at(case, length, index) for index in indexes]
        places = [[case.font.signs.index(sign) for sign in row] for row in rows]
        self.assertEqual(places, sorted(places))
        for row, index in zip(rows, indexes):
            self.assertEqual([len(row), row_index(case, row)], [length, index])
            self.assertTrue(all(excess(case, Wants.of(case.font, row), signs) <= 0 for signs in all_sets(case.font)))
        for index in [-1, number, 10 ** 60]:
            self.assert_value_error(OutOfRange, index, row_at, case, length, index)

    def test_all_rows_in_order(self):
        for many, length in LENGTHS.items():
            case = full("0123456789"[:many])
            self.assertEqual(count_rows(case, length), many ** length)
            for index in [0, many, many ** length // 3, many ** length - 1]:
                row = row_at(case, length, index)
                self.assertEqual([sum(int(sign) * many ** at for at, sign in enumerate(reversed(row))), len(row)],
                                 [index, length])
                self.assertEqual(row_index(case, row), index)

    def test_signs_are_ordered_as_in_the_font(self):
        case = full("ba0")
        rows = ["".join(row) for row in itertools.product("ba0", repeat=3)]
        self.assertEqual([row_at(case, 3, index) for index in range(27)], rows)
        self.assertEqual([row_index(case, row) for row in rows], list(range(27)))

    def test_a_few_plates_of_many_signs(self):
        font = Font.digits()
        case = Case(font, [("69", 1), ("0-", 1), ("12", 1), ("5-", 1)])
        rows = []
        for shown in itertools.product("69", "0", "12", "5"):
            rows.extend("".join(order) for order in itertools.permutations(shown))
        self.assertEqual([row_at(case, 4, index) for index in range(count_rows(case, 4))], sorted(rows))


class LengthsTest(PlatesTest):

    def test_the_empty_row(self):
        for case in [CASE, Case(FONT), full("01"), full("0123456789")]:
            self.assertEqual([count_rows(case, 0), row_at(case, 0, 0), row_index(case, "")], [1, "", 0])
            self.assert_value_error(OutOfRange, 1, row_at, case, 0, 1)

    def test_a_case_without_plates(self):
        for length in [1, 2, 20]:
            self.assertEqual(count_rows(Case(FONT), length), 0)
            self.assert_value_error(OutOfRange, 0, row_at, Case(FONT), length, 0)
            self.assert_value_error(InvalidRow, "6" * length, row_index, Case(FONT), "6" * length)

    def test_lengths_beyond_what_there_are_plates_for(self):
        self.assertEqual([count_rows(CASE, length) > 0 for length in range(7)], [True] * 5 + [False] * 2)
        self.assert_value_error(InvalidRow, "66690", row_index, CASE, "66690")

    def test_too_many_wants(self):
        for many, length in LENGTHS.items():
            case = full("0123456789"[:many])
            wants = math.comb(length + many - 1, many - 1)
            self.assertLessEqual(wants, 2000)
            for longer in range(length + 1, 61):
                self.assertGreater(math.comb(longer + many - 1, many - 1), 2000)
                self.assert_value_error(TooMany, longer, count_rows, case, longer)
                self.assert_value_error(TooMany, longer, row_at, case, longer, 0)
                self.assert_value_error(TooMany, longer, row_index, case, "0" * longer)

    def test_any_other_value_is_no_length(self):
        for value in no_numbers(0, 60):
            with self.subTest(value=value):
                self.assert_value_error(InvalidNumber, value, count_rows, CASE, value)
                self.assert_value_error(InvalidNumber, value, row_at, CASE, value, None)

    def test_sixty_and_one_more(self):
        case = full("01")
        self.assertEqual(row_index(case, row_at(case, 60, 2 ** 60 - 7)), 2 ** 60 - 7)
        self.assert_value_error(InvalidNumber, 61, count_rows, case, 61)
        self.assert_value_error(InvalidNumber, 61, row_at, case, 61, 0)
        for length in [61, 62, 1000, 4000, 10000]:
            self.assert_value_error(TooMany, length, row_index, case, "1" * length)
            self.assert_value_error(TooMany, length, row_index, CASE, "06" * (length // 2) + "8" * (length & 1))
            self.assert_value_error(TooMany, length, row_index, Case(Font("01")), "1" * length)


class ErrorsTest(PlatesTest):

    def test_any_other_value_is_no_index(self):
        for value in no_numbers(0, 2):
            with self.subTest(value=value):
                self.assert_value_error(OutOfRange, value, row_at, Case(Font("01"), [("01", 1), ("0-", 1)]), 2, value)

    def test_any_other_value_is_no_row(self):
        for value in strange_values() + ["1", "01", "-", "6 ", " 6", "6\n", [], (), {}, ["6"], ("6", "9"), "66666", "88"]:
            if value != "0" * 4000:
                with self.subTest(value=value):
                    self.assert_value_error(InvalidRow, value, row_index, CASE, value)

    def test_what_is_no_row_of_signs_is_told_before_its_length(self):
        for row in ["0" * 60 + "x", "x" * 61, "1" * 4000, "6" * 100 + "-"]:
            self.assert_value_error(InvalidRow, row, row_index, CASE, row)

    def test_the_order_of_errors(self):
        case = full("0123")
        self.assert_value_error(InvalidNumber, 61, row_at, case, 61, None)
        self.assert_value_error(TooMany, 21, row_at, case, 21, None)
        self.assert_value_error(OutOfRange, None, row_at, case, 20, None)
        # Too many wants are told before whether the row hangs.
        self.assert_value_error(TooMany, 21, row_index, Case(FONT), "6" * 21)
        self.assert_value_error(InvalidRow, "6" * 20, row_index, Case(FONT), "6" * 20)

    def test_arguments_by_name(self):
        self.assertEqual([count_rows(length=1, case=CASE), row_at(index=1, length=1, case=CASE)], [4, "6"])
        self.assertEqual(row_index(row="9", case=CASE), 3)

    def test_equal_calls_return_equal_results(self):
        told = [[count_rows(CASE, 3), row_at(CASE, 3, 17), row_index(CASE, "698")] for _ in range(2)]
        self.assertEqual(told[0], told[1])
        self.assertEqual(CASE, Case(FONT, [("69", 2), ("8-", 1), ("06", 1)]))


if __name__ == "__main__":
    unittest.main()
