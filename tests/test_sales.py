"""Sales of plates beside which wants hang: promises 4 and 41."""

import random
import unittest

from hymnplates.cases import Case
from hymnplates.errors import InvalidWorths, Lacking, OtherFont
from hymnplates.fonts import Font
from hymnplates.prices import is_sale, sale
from hymnplates.wants import Wants
from papers import (amount, dearest, great_number, great_table, hang, is_full_list, is_numbers, is_tuple, is_whole,
                    parted, parts_of, shuffled, some_table, strange_tables, variants, wanted)
from searches import large_cases, large_wants, plain_shortage, small_cases, small_wants
from support import CASE, FONT, MOST, OTHER, PlatesTest, nested, of, strange_values


def is_right(case, wants, worths, value):
    """Whether a value is a best sale, by the words of the document."""
    if not is_tuple(value, 3) or not is_whole(value[0]):
        return False
    worth, sold, prices = value
    plates = dict(case.plates)
    if not is_numbers(sold, plates, 1) or any(sold[kind] > plates[kind] for kind in sold):
        return False
    if not is_full_list(case.font, prices) or worth != amount(sold, worths):
        return False
    if not hang(case.font, parted(plates, sold), wants):
        return False
    most = sum(plates[kind] * max(worths.get(kind, 0), dearest(case.font, prices, kind)) for kind in plates)
    return worth == most - wanted(wants, prices)


def most_worth(case, wants, worths):
    """The worth of the best sale, by all sales."""
    plates = dict(case.plates)
    return max(amount(sold, worths) for sold in parts_of(plates) if hang(case.font, parted(plates, sold), wants))


class SalesTest(PlatesTest):

    def check(self, case, wants, worths):
        told = sale(case, wants, worths)
        self.assertTrue(is_right(case, wants, worths, told))
        self.assertIs(is_sale(case, wants, worths, told), True)
        self.assertEqual(sale(case, wants, worths), told)
        return told

    def test_the_example_of_the_document(self):
        self.assertEqual(self.check(CASE, of("6"), {"69": 3, "06": 4, "8-": 1})[0], 8)

    def test_edges(self):
        self.assertEqual(sale(Case(FONT), of(""), {}), (0, {}, dict.fromkeys("0689", 0)))
        self.assertEqual(self.check(CASE, of(""), {"69": 3, "8-": MOST})[:2], (6 + MOST, {"69": 2, "8-": 1}))
        self.assertEqual(self.check(CASE, of(""), {"88": 7, "69": 0})[0], 0)
        self.assertEqual(self.check(CASE, of("8"), {"8-": MOST})[:2], (0, {}))
        great = Case(Font("01"), [("01", MOST), ("0-", MOST)])
        wants = Wants(great.font, {"0": MOST, "1": MOST - 1})
        self.assertEqual(self.check(great, wants, {"01": MOST, "0-": MOST})[0], MOST)
        self.assertEqual(self.check(great, wants, {"01": MOST - 1, "0-": MOST - 1})[0], MOST - 1)

    def test_small_cases_against_all_sales(self):
        chance = random.Random(41)
        sold = 0
        for case in small_cases(141, 48):
            for wants in shuffled(chance.random(), small_wants(case.font, 3), 7):
                worths = some_table(chance, case.font, [0, 1, 2, 3, 7])
                for kind in case.kinds:
                    worths.setdefault(kind, chance.choice([0, 1, 2, 2, 5]))
                if plain_shortage(case, wants)[0] == 0:
                    worth = self.check(case, wants, worths)[0]
                    self.assertEqual(worth, most_worth(case, wants, worths))
                    sold += worth > 0
        self.assertGreater(sold, 50)

    def test_large_cases(self):
        chance = random.Random(42)
        fonts = [Font.digits(), Font("0123456789"), Font("abcdefghij", [("a", "b"), ("c", "d"), ("e", "f")])]
        hung = 0
        for case in [*large_cases(143, 30), *large_cases(144, 12, fonts)]:
            wants = large_wants(chance, case)
            if plain_shortage(case, wants)[0] == 0:
                worths = {**great_table(chance, case.font, 20), **{kind: great_number(chance) for kind in case.kinds[::2]}}
                self.check(case, wants, worths)
                hung += 1
        self.assertGreater(hung, 15)

    def test_thirty_kinds_of_ten_signs(self):
        chance = random.Random(45)
        font = Font.digits()
        case = Case(font, [(kind, chance.randrange(1, MOST)) for kind in great_table(chance, font, 30)])
        wants = Wants(font, {sign: chance.randrange(case.bearing(sign) // 9 + 1) for sign in font.signs})
        self.check(case, wants, great_table(chance, font, 60))


class AcceptedSalesTest(PlatesTest):

    def check_variants(self, case, wants, worths):
        told = sale(case, wants, worths)
        seen = {True: 0, False: 0}
        for value in variants(told):
            right = is_right(case, wants, worths, value)
            seen[right] += 1
            with self.subTest(value=value):
                self.assertIs(is_sale(case, wants, worths, value), right)
        return seen

    def test_changed_parts(self):
        font = Font("01")
        case = Case(font, [("01", 2), ("0-", 2)])
        seen = [self.check_variants(case, Wants.of(font, row), worths)
                for row in ["", "0", "01", "001", "11"] for worths in [{"01": 2, "0-": 1}, {"01": 1, "0-": 1, "00": 4}, {}]]
        self.assertTrue(all(one[True] and one[False] for one in seen))

    def test_changed_parts_of_other_cases(self):
        self.check_variants(CASE, of("6"), {"69": 3, "06": 4, "8-": 1})
        self.check_variants(CASE, of("698"), {"69": 3, "06": 3, "8-": 3})

    def test_every_best_sale_is_accepted(self):
        case = Case(Font("01"), [("01", 2), ("0-", 1)])
        wants = Wants.of(case.font, "0")
        prices = sale(case, wants, {"01": 2, "0-": 2})[2]
        accepted = [sold for sold in parts_of({"01": 2, "0-": 1})
                    if is_sale(case, wants, {"01": 2, "0-": 2}, (4, sold, prices))]
        self.assertEqual(accepted, [{"01": 1, "0-": 1}, {"01": 2}])

    def test_plates_that_are_worth_nothing_may_be_sold(self):
        prices = sale(CASE, of("6"), {"69": 1})[2]
        for sold, accepted in [({"69": 2}, True), ({"69": 2, "8-": 1}, True), ({"69": 2, "06": 1}, False)]:
            self.assertIs(is_sale(CASE, of("6"), {"69": 1}, (2, sold, prices)), accepted)

    def test_any_other_value(self):
        told = sale(CASE, of("6"), {"69": 3})
        for value in strange_values() + [told[:2], (told,), [told], (*told, 0), ("sale", *told), nested(20)]:
            self.assertIs(is_sale(CASE, of("6"), {"69": 3}, value), False)
        self.assertIs(is_sale(CASE, of("6"), {"69": 3}, told), True)


class SalesErrorsTest(PlatesTest):

    def test_any_other_value_is_no_worths(self):
        tables = strange_tables(FONT) + [{"60": 1}, {"06": 1, "96": 1}]
        for value in tables + [value for value in strange_values() if value != {"06": 2}]:
            with self.subTest(value=value):
                for wants in [of(""), of("888")]:
                    self.assert_value_error(InvalidWorths, value, sale, CASE, wants, value)
                    self.assert_value_error(InvalidWorths, value, is_sale, CASE, wants, value, None)

    def test_wants_that_do_not_hang(self):
        for worths in [{}, {"8-": 1}, {"88": MOST}]:
            self.assert_error(Lacking, {"lack": "8"}, sale, CASE, of("8866"), worths)
            self.assert_error(Lacking, {"lack": "8"}, is_sale, CASE, of("8866"), worths, None)
        self.assert_error(Lacking, {"lack": "01"}, sale, Case(Font("01"), [("01", 1)]), Wants.of(Font("01"), "01"), {})

    def test_other_fonts_come_first(self):
        for font in [OTHER, Font("01"), Font("0698", [("6", "9")])]:
            for worths in [{}, None, {"60": 1}]:
                self.assert_error(OtherFont, {}, sale, CASE, Wants.none(font), worths)
                self.assert_error(OtherFont, {}, is_sale, CASE, Wants.none(font), worths, None)

    def test_arguments_by_name_and_nothing_is_changed(self):
        worths = {"8-": 1, "69": 3, "06": 4}
        told = sale(worths=worths, wants=of("6"), case=CASE)
        self.assertIs(is_sale(value=told, worths=worths, wants=of("6"), case=CASE), True)
        self.assertEqual(list(worths.items()), [("8-", 1), ("69", 3), ("06", 4)])
        told[1].clear()
        told[2].clear()
        worths.clear()
        self.assertEqual(sale(CASE, of("6"), {"69": 3, "06": 4, "8-": 1})[0], 8)


if __name__ == "__main__":
    unittest.main()
