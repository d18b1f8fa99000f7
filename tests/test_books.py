"""Books, and choices of numbers against them: promises 51 and 52, against all choices."""

import itertools
import random
import unittest

from hymnplates.books import choice, is_choice, is_safe, jokers, largest_book, most_numbers, worst_share
from hymnplates.cases import Case
from hymnplates.errors import InvalidNumber, InvalidSigns
from hymnplates.fonts import Font, all_kinds, all_sets
from hymnplates.wants import Wants
from papers import hang, is_written, variants
from searches import FONTS, large_cases, small_cases
from support import CASE, FONT, MOST, PlatesTest, nested, no_numbers, strange_values
from test_streets import plain_row, plain_share

BINARY = Font("01")
THREE = Case(BINARY, [("01", 3)])


def plain_worst_share(font, last, k, signs):
    shares = sorted([plain_share(font, number, signs) for number in range(1, last + 1)], reverse=True)
    return sum(shares[:k])


def plain_is_safe(case, last, k):
    """Whether all choices of numbers hang, each looked at by itself."""
    for chosen in itertools.combinations(range(1, last + 1), min(k, last)):
        row = "".join(plain_row(case.font, number) for number in chosen)
        if not hang(case.font, dict(case.plates), Wants.of(case.font, row)):
            return False
    return True


def plain_jokers(case, last, k):
    """The least number of plates that show every sign, by the words of 52 over all sets."""
    return max(plain_worst_share(case.font, last, k, signs) - case.bearing(signs) for signs in all_sets(case.font))


def is_right_choice(case, last, k, value):
    if type(value) is not tuple or len(value) != 2 or not is_written(case.font, value[0]) or type(value[1]) is not list:
        return False
    signs, numbers = value
    if len(numbers) > k or not all(type(number) is int and 1 <= number <= last for number in numbers):
        return False
    if sorted(set(numbers)) != numbers:
        return False
    return sum(plain_share(case.font, number, signs) for number in numbers) > case.bearing(signs)


class BooksTest(PlatesTest):

    def test_the_examples_of_the_document(self):
        self.assertEqual([worst_share(BINARY, 4, 2, "1"), is_safe(THREE, 2, 2), choice(THREE, 3, 2), jokers(THREE, 3, 2)],
                         [3, True, ("01", [2, 3]), (1, "01")])
        self.assertEqual([largest_book(THREE, 2), most_numbers(THREE, 3)], [2, 1])

    def test_worst_shares_of_small_numbers(self):
        for font in [*FONTS[:6], Font.digits()]:
            for last in [0, 1, 2, 7, 8, 9, 10, 63, 64, 101]:
                for signs in random.Random(last).sample(all_sets(font), min(12, 1 << len(font))):
                    for k in [0, 1, 2, 3, 9, last - 1, last, last + 1, MOST]:
                        if k >= 0:
                            self.assertEqual(worst_share(font, last, k, signs[::-1]),
                                             plain_worst_share(font, last, k, signs))

    def test_small_books_against_all_choices(self):
        seen = {True: 0, False: 0}
        for case in small_cases(153, 72, 9):
            for last in [0, 1, 2, 3, 5, 8]:
                for k in [0, 1, 2, 3, last]:
                    safe = is_safe(case, last, k)
                    self.assertIs(safe, plain_is_safe(case, last, k))
                    seen[safe] += 1
                    told = choice(case, last, k)
                    self.assertIs(told is None, safe)
                    self.assertIs(is_right_choice(case, last, k, told), not safe)
                    self.assertIs(is_choice(case, last, k, told), not safe)
        self.assertGreater(min(seen.values()), 200)

    def test_jokers_make_a_book_safe(self):
        for case in small_cases(154, 40, 6):
            for last, k in [(0, 3), (3, 1), (5, 2), (6, 3), (4, MOST)]:
                number, signs = jokers(case, last, k)
                self.assertEqual(number, plain_jokers(case, last, k))
                if signs != "" or number:
                    self.assertEqual(worst_share(case.font, last, k, signs) - case.bearing(signs), number)
                # No plate of these fonts shows every sign: as many more of each sign cover any set at least as well.
                more = Case(case.font, [(f"{sign}-", 20) for sign in case.font.signs])
                self.assertEqual(jokers(case | more, last, k)[0] == 0, is_safe(case | more, last, k))
        two = Case(BINARY, [("01", 1)])
        self.assertEqual(jokers(two, 3, 2)[0], 3)
        self.assertFalse(is_safe(two | Case(BINARY, [("01", 2)]), 3, 2))
        self.assertTrue(is_safe(two | Case(BINARY, [("01", 3)]), 3, 2))

    def test_largest_books_and_most_numbers_of_small_cases(self):
        for case in small_cases(155, 32, 8):
            for k in [1, 2, 3, 5]:
                last = largest_book(case, k)
                if last < 10:
                    self.assertTrue(plain_is_safe(case, last, k))
                    self.assertFalse(plain_is_safe(case, last + 1, k))
            for last in range(8):
                most = most_numbers(case, last)
                self.assertEqual(most, max(k for k in range(last + 1) if plain_is_safe(case, last, k)))

    def test_books_of_nothing(self):
        for case in [Case(FONT), CASE]:
            self.assertEqual([largest_book(case, 0), most_numbers(case, 0), choice(case, 0, 20), choice(case, MOST, 0)],
                             [MOST, 0, None, None])
            self.assertEqual([jokers(case, 0, MOST), jokers(case, MOST, 0), is_safe(case, 0, MOST)],
                             [(0, ""), (0, ""), True])
        self.assertEqual([largest_book(Case(FONT), 1), most_numbers(Case(FONT), MOST), is_safe(Case(FONT), 1, 1)],
                         [0, 0, False])
        self.assertEqual(choice(Case(FONT), 1, 1), ("6", [1]))

    def test_great_books(self):
        chance = random.Random(56)
        fonts = [*FONTS, Font.digits(), Font("9876543210"), Font("zyxwvuts")]
        for case in large_cases(156, 11, fonts):
            for k in [1, 20, chance.randrange(MOST), MOST]:
                last = largest_book(case, k)
                self.assertTrue(is_safe(case, last, k))
                if last < MOST:
                    self.assertFalse(is_safe(case, last + 1, k))
                    number, signs = jokers(case, last + 1, k)
                    self.assertGreater(number, 0)
                    self.assertEqual(worst_share(case.font, last + 1, k, signs) - case.bearing(signs), number)
            last = chance.randrange(MOST)
            k = most_numbers(case, last)
            self.assertTrue(is_safe(case, last, k))
            self.assertTrue(k == last or not is_safe(case, last, k + 1))

    def test_great_choices(self):
        chance = random.Random(57)
        for font in [BINARY, Font.digits(), Font("abcdefghij")]:
            kinds = chance.sample(all_kinds(font), 3)
            case = Case(font, [(kind, 30) for kind in kinds])
            told = choice(case, MOST, 20)
            self.assertTrue(is_right_choice(case, MOST, 20, told))
            self.assertIs(is_choice(case, MOST, 20, told), True)
            self.assertTrue(told[1])
        full = Case(Font.digits(), [(kind, MOST) for kind in all_kinds(Font.digits())])
        self.assertEqual([largest_book(full, 20), choice(full, MOST, 20), jokers(full, MOST, 20)], [MOST, None, (0, "")])

    def test_the_worst_share_of_all_numbers(self):
        self.assertEqual(worst_share(Font.digits(), MOST - 1, MOST, "123456789"), 27 * MOST)
        self.assertEqual(worst_share(Font.digits(), MOST, 2, "9"), 59)
        self.assertEqual(worst_share(Font.digits(), MOST, 1, "0"), 30)
        self.assertEqual(worst_share(BINARY, (1 << 99) - 1, 1, "1"), 99)


class AcceptedChoicesTest(PlatesTest):

    def test_changed_parts(self):
        for case, last, k in [(THREE, 3, 2), (THREE, 9, 4), (CASE, 12, 3), (Case(FONT), 2, 1),
                              (Case(BINARY, [("1-", 2)]), 7, 2)]:
            told = choice(case, last, k)
            seen = {True: 0, False: 0}
            for value in [told, *variants(told)]:
                right = is_right_choice(case, last, k, value)
                seen[right] += 1
                self.assertIs(is_choice(case, last, k, value), right)
            self.assertTrue(seen[True] and seen[False])

    def test_other_values(self):
        for value, accepted in [(("01", [2, 3]), True), (("01", [3, 2]), False), (("01", (2, 3)), False),
                                (("01", [2, 3, 1]), False), (("01", [1, 2, 3]), False),
                                (("01", [1, 3]), False), (("01", [3]), False), (("10", [2, 3]), False),
                                (("01", [3, 3]), False),
                                (("01", [2, 4]), False), (("01", [True, 3]), False), (("01", ["2", 3]), False),
                                (("", [2, 3]), False),
                                (("01", [0, 3]), False), (["01", [2, 3]], False), (("01", [2, 3], 0), False),
                                (("01",), False),
                                (("01", {2: 3}), False), (("01", None), False), ((["0", "1"], [2, 3]), False),
                                (([2, 3], "01"), False)]:
            self.assertIs(is_choice(THREE, 3, 2, value), accepted)
        for value in strange_values() + [nested(20), "", [], (), {}, ("", []), ("01", [nested(17), 3])]:
            self.assertIs(is_choice(THREE, 3, 2, value), False)
        # Fewer numbers than k, and other sets, are choices as well.
        self.assertIs(is_choice(Case(FONT), 9, 5, ("8", [2])), True)
        self.assertIs(is_choice(Case(FONT), 9, 5, ("6", [2])), False)
        self.assertIs(is_choice(Case(FONT), 9, 5, ("068", [2])), True)


class BooksErrorsTest(PlatesTest):

    def test_last_numbers_come_first(self):
        for value in no_numbers(0, MOST):
            for k in [1, None]:
                self.assert_value_error(InvalidNumber, value, worst_share, FONT, value, k, "x")
                self.assert_value_error(InvalidNumber, value, is_choice, CASE, value, k, None)
                for function in [is_safe, choice, jokers]:
                    self.assert_value_error(InvalidNumber, value, function, CASE, value, k)
            self.assert_value_error(InvalidNumber, value, most_numbers, CASE, value)

    def test_numbers_of_numbers(self):
        for value in no_numbers(0, MOST):
            self.assert_value_error(InvalidNumber, value, worst_share, FONT, 0, value, "x")
            self.assert_value_error(InvalidNumber, value, largest_book, CASE, value)
            for function in [is_safe, jokers]:
                self.assert_value_error(InvalidNumber, value, function, CASE, MOST, value)
        for value in no_numbers(0, 20):
            self.assert_value_error(InvalidNumber, value, choice, CASE, 0, value)
            self.assert_value_error(InvalidNumber, value, is_choice, CASE, 0, value, None)
        self.assertEqual([choice(CASE, 0, 20), is_choice(CASE, 0, 20, None)], [None, False])

    def test_sets(self):
        for value in strange_values() + ["00", "606", "1", "6-", ["6"], ("6", "8"), "6\n", 6, {"6": 1}]:
            if value != "0":
                self.assert_value_error(InvalidSigns, value, worst_share, FONT, 0, MOST, value)
        self.assertEqual([worst_share(FONT, 4, 1, ""), worst_share(FONT, 4, 1, "06"), worst_share(FONT, 4, 1, "60")],
                         [0, 2, 2])

    def test_arguments_by_name_and_what_is_returned_is_new(self):
        self.assertEqual(worst_share(signs="1", k=2, last=4, font=BINARY), 3)
        told = choice(k=2, last=3, case=THREE)
        self.assertIs(is_choice(value=told, k=2, last=3, case=THREE), True)
        told[1].clear()
        self.assertEqual(choice(THREE, 3, 2), ("01", [2, 3]))
        self.assertEqual([is_safe(k=2, last=2, case=THREE), jokers(k=2, last=3, case=THREE)], [True, (1, "01")])
        self.assertEqual([largest_book(k=2, case=THREE), most_numbers(last=3, case=THREE)], [2, 1])


if __name__ == "__main__":
    unittest.main()
