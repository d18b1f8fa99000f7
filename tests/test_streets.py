"""Numbers in fonts, streets and shares: promises 50 and 51, against all numbers written out."""

import random
import unittest

from hymnplates.cases import Case
from hymnplates.errors import InvalidNumber, InvalidRow, InvalidSigns, OutOfRange
from hymnplates.fonts import Font, all_sets
from hymnplates.hanging import hangs
from hymnplates.streets import count_with, longest_street, nth_with, number_of, street, written
from hymnplates.wants import Wants
from searches import FONTS, large_cases, plain_shortage, small_cases
from support import CASE, FONT, MOST, PlatesTest, no_numbers, strange_values

BINARY = Font("01")
ALL_FONTS = [*FONTS, Font.digits(), Font("9876543210"), Font("zyxwvuts")]


def plain_row(font, number):
    """The row of a number, the last digit first found."""
    row = ""
    while number:
        row = font.signs[number % len(font)] + row
        number //= len(font)
    return row


def plain_share(font, number, signs):
    return sum(sign in signs for sign in plain_row(font, number))


class NumbersTest(PlatesTest):

    def test_the_examples_of_the_document(self):
        case = Case(BINARY, [("01", 3)])
        self.assertEqual([written(BINARY, 5), number_of(BINARY, "110"), longest_street(case, 1)], ["101", 6, 2])
        self.assertEqual(street(BINARY, 1, 3).counts, {"0": 1, "1": 4})
        self.assert_value_error(InvalidRow, "01", number_of, BINARY, "01")
        self.assertEqual(street(BINARY, 3, 2).total, 0)

    def test_small_numbers(self):
        for font in ALL_FONTS:
            rows = [written(font, number) for number in range(1, 300)]
            self.assertEqual(rows, [plain_row(font, number) for number in range(1, 300)])
            self.assertEqual([number_of(font, row) for row in rows], list(range(1, 300)))
        self.assertEqual([written(Font("ba"), number) for number in (1, 2, 3)], ["a", "ab", "aa"])

    def test_powers_of_the_base_and_those_beside_them(self):
        for font in ALL_FONTS:
            zero, one, top = font.signs[0], font.signs[1], font.signs[-1]
            power, places = len(font), 1
            while power < MOST:
                rows = [top * places, one + zero * places, one + zero * (places - 1) + one]
                self.assertEqual([written(font, power + step) for step in (-1, 0, 1)], rows)
                self.assertEqual([number_of(font, row) for row in rows], [power - 1, power, power + 1])
                power, places = power * len(font), places + 1
            for number in [MOST - 1, MOST, MOST // 7]:
                self.assertEqual(written(font, number), plain_row(font, number))

    def test_rows_of_any_length(self):
        self.assertEqual(number_of(BINARY, "1" * 4000), (1 << 4000) - 1)
        self.assertEqual(number_of(Font.digits(), "1" + "0" * 3999), 10 ** 3999)
        self.assertEqual(number_of(Font.digits(), str(MOST + 1)), MOST + 1)

    def test_any_other_value_is_no_number(self):
        for value in no_numbers(1, MOST):
            self.assert_value_error(InvalidNumber, value, written, FONT, value)
        self.assertEqual(written(number=1, font=FONT), "6")

    def test_any_other_value_writes_no_number(self):
        for row in ["", "0", "00", "06", "01", "16", "6 ", " 6", "6-", "-", "6.", "6\n", ["6"], ("6",), 6, "0" * 4000, "6x"]:
            self.assert_value_error(InvalidRow, row, number_of, FONT, row)
        for value in strange_values():
            self.assert_value_error(InvalidRow, value, number_of, FONT, value)
        self.assertEqual(number_of(row="60", font=FONT), 4)


class StreetsTest(PlatesTest):

    def test_small_streets(self):
        for font in ALL_FONTS:
            counts = dict.fromkeys(font.signs, 0)
            ends = [dict(counts)]
            for number in range(1, 140):
                for sign in plain_row(font, number):
                    counts[sign] += 1
                ends.append(dict(counts))
            for first in [1, 2, 9, 10, 11, 64, 99, 100, 139]:
                for last in range(first - 1, 140, 3):
                    wants = street(font, first, last)
                    self.assertEqual([wants[sign] for sign in font.signs],
                                     [ends[last][sign] - ends[first - 1][sign] for sign in font.signs])
                    self.assertEqual(wants.font, font)

    def test_great_streets(self):
        digits = Font.digits()
        wants = street(digits, 1, MOST - 1)
        self.assertEqual([wants[sign] for sign in "123456789"], [3 * MOST] * 9)
        self.assertEqual(wants["0"], 3 * MOST - (MOST - 1) // 9)
        self.assertEqual(street(digits, MOST, MOST).counts, {"0": 30, "1": 1})
        self.assertEqual(street(digits, MOST, MOST - 1), Wants.none(digits))
        for font in ALL_FONTS:
            middle = MOST // 3
            self.assertEqual(street(font, 1, middle) + street(font, middle + 1, MOST), street(font, 1, MOST))
            self.assertEqual(street(font, middle, middle), Wants.of(font, plain_row(font, middle)))

    def test_numbers_of_streets(self):
        for value in no_numbers(1, MOST):
            for last in [0, None]:
                self.assert_value_error(InvalidNumber, value, street, FONT, value, last)
            self.assert_value_error(InvalidNumber, value, longest_street, CASE, value)
        for first in [1, 7, MOST]:
            for value in no_numbers(first - 1, MOST):
                self.assert_value_error(InvalidNumber, value, street, FONT, first, value)
        self.assertEqual(street(last=2, first=2, font=FONT).counts, {"8": 1})

    def test_longest_streets_of_small_cases(self):
        for case in small_cases(151, 64, 9):
            for first in [1, 2, 3, 9, 10, 60]:
                last = first - 1
                row = plain_row(case.font, first)
                while plain_shortage(case, Wants.of(case.font, row))[0] == 0:
                    last += 1
                    row += plain_row(case.font, last + 1)
                self.assertEqual(longest_street(case, first), last)

    def test_longest_streets_of_great_cases(self):
        for case in large_cases(152, 40, ALL_FONTS):
            for first in [1, 12345, MOST]:
                last = longest_street(case=case, first=first)
                if last <= MOST:
                    self.assertTrue(hangs(case, street(case.font, first, last)))
                if last < MOST:
                    self.assertFalse(hangs(case, street(case.font, first, last + 1)))

    def test_streets_longer_than_the_numbers_of_others(self):
        case = Case(BINARY, [("01", MOST), ("0-", MOST), ("1-", MOST)])
        last = longest_street(case, MOST)
        self.assertGreater(last, MOST + MOST // 50)
        # These numbers have a hundred digits, or a few more.
        self.assertLess(last, MOST + 3 * MOST // 100)
        full = Case(Font.digits(), [(f"{one}{other}", MOST) for one in range(10) for other in range(one, 10)])
        self.assertGreater(longest_street(full, 1), MOST)
        self.assertEqual(longest_street(Case(FONT), MOST), MOST - 1)
        self.assertEqual(longest_street(Case(FONT), 1), 0)


class SharesTest(PlatesTest):

    def test_the_examples_of_the_document(self):
        self.assertEqual([count_with(BINARY, 4, "1", 1), nth_with(BINARY, 4, "1", 1, 2)], [3, 4])
        self.assertEqual(count_with(BINARY, 0, "1", 0), 0)

    def test_small_numbers(self):
        for font in [*FONTS[:6], Font.digits()]:
            for last in [0, 1, 2, 3, 8, 9, 10, 11, 63, 64, 100, 121]:
                for signs in random.Random(last).sample(all_sets(font), min(10, 1 << len(font))):
                    numbers = {}
                    for number in range(1, last + 1):
                        numbers.setdefault(plain_share(font, number, signs), []).append(number)
                    for share in range(9):
                        found = numbers.get(share, [])
                        self.assertEqual(count_with(font, last, signs[::-1], share), len(found))
                        self.assertEqual([nth_with(font, last, signs, share, index) for index in range(len(found))], found)

    def test_great_numbers(self):
        chance = random.Random(55)
        for font in ALL_FONTS:
            for last in [MOST, MOST - 1, chance.randrange(MOST)]:
                signs = chance.choice(all_sets(font))
                shares = [count_with(font, last, signs, share) for share in range(102)]
                self.assertEqual(sum(shares), last)
                for share in [0, 1, 7, 30, 99]:
                    if shares[share]:
                        self.look_at_great_indexes(font, last, signs, share, shares[share], chance)

    def look_at_great_indexes(self, font, last, signs, share, many, chance):
        for index in {0, many - 1, many // 2, chance.randrange(many)}:
            number = nth_with(font, last, signs, share, index)
            self.assertTrue(1 <= number <= last)
            self.assertEqual(plain_share(font, number, signs), share)
            self.assertEqual([count_with(font, number, signs, share), count_with(font, number - 1, signs, share)],
                             [index + 1, index])

    def test_shares_that_do_not_occur(self):
        for share in [4, 31, 101, 1000]:
            self.assertEqual(count_with(Font.digits(), 999, "0123456789", share), 0)
            self.assert_value_error(OutOfRange, 0, nth_with, Font.digits(), 999, "0123456789", share, 0)
        self.assertEqual([count_with(FONT, MOST, "", 0), count_with(FONT, MOST, "", 1),
                          count_with(FONT, MOST, "9860", 0)], [MOST, 0, 0])

    def test_indexes(self):
        for value in no_numbers(0, 2):
            self.assert_value_error(OutOfRange, value, nth_with, BINARY, 4, "1", 1, value)
        self.assertEqual([nth_with(BINARY, 4, "1", 1, index) for index in range(3)], [1, 2, 4])

    def test_errors_in_their_order(self):
        signs = [value for value in strange_values() if value != "0"]
        for value in no_numbers(0, MOST):
            self.assert_value_error(InvalidNumber, value, count_with, FONT, value, "x", None)
            self.assert_value_error(InvalidNumber, value, nth_with, FONT, value, "x", None, None)
        for value in signs + ["00", "606", "1", "6-", ["6"], ("6", "8"), "6\n", 6, {"6": 1}]:
            self.assert_value_error(InvalidSigns, value, count_with, FONT, 0, value, None)
            self.assert_value_error(InvalidSigns, value, nth_with, FONT, 0, value, -1, None)
        for value in no_numbers(0, 1000):
            self.assert_value_error(InvalidNumber, value, count_with, FONT, MOST, "", value)
            self.assert_value_error(InvalidNumber, value, nth_with, FONT, MOST, "96", value, None)

    def test_arguments_by_name(self):
        self.assertEqual(count_with(share=1, signs="1", last=4, font=BINARY), 3)
        self.assertEqual(nth_with(index=0, share=1, signs="1", last=4, font=BINARY), 1)


if __name__ == "__main__":
    unittest.main()
