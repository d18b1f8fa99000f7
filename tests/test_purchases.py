"""Purchases of plates so that wants hang: promises 4 and 42."""

import random
import unittest

from hymnplates.cases import Case
from hymnplates.errors import InvalidPrices, OtherFont
from hymnplates.fonts import Font
from hymnplates.prices import is_purchase, purchase
from hymnplates.wants import Wants
from papers import (amount, baskets, dearest, great_table, hang, is_full_list, is_lasting, is_numbers, is_tuple, is_whole,
                    joined, shuffled, some_table, strange_tables, variants, wanted)
from searches import large_cases, large_wants, small_cases, small_wants
from support import CASE, FONT, MOST, OTHER, PlatesTest, nested, of, strange_values


def is_right(case, wants, prices, value):
    """Whether a value is a cheapest purchase, or a lack that none mends, by the words of the document."""
    if is_tuple(value, 2, "lack"):
        return is_lasting(case, wants, prices, value[1])
    if not is_tuple(value, 4, "bought") or not is_whole(value[1]):
        return False
    _, cost, bought, listed = value
    if not is_numbers(bought, prices, 1) or not is_full_list(case.font, listed) or cost != amount(bought, prices):
        return False
    if not hang(case.font, joined(dict(case.plates), bought), wants):
        return False
    if any(dearest(case.font, listed, kind) > prices[kind] for kind in prices):
        return False
    plates = sum(count * dearest(case.font, listed, kind) for kind, count in case.plates)
    return cost == wanted(wants, listed) - plates


def least_cost(case, wants, prices):
    """The least cost of all purchases, None if none suffices; more plates than wanted signs are of no use."""
    costs = [amount(bought, prices) for bought in baskets(prices, wants.total)
             if hang(case.font, joined(dict(case.plates), bought), wants)]
    return min(costs, default=None)


class PurchasesTest(PlatesTest):

    def check(self, case, wants, prices):
        told = purchase(case, wants, prices)
        self.assertTrue(is_right(case, wants, prices, told))
        self.assertIs(is_purchase(case, wants, prices, told), True)
        self.assertEqual(purchase(case, wants, prices), told)
        if told[0] == "bought":
            self.assertLessEqual(sum(told[2].values()), wants.total)
        return told

    def test_the_examples_of_the_document(self):
        self.assertEqual(self.check(CASE, of("88"), {"88": 7, "68": 4})[:3], ("bought", 4, {"68": 1}))
        self.assertEqual(self.check(CASE, of("88"), {}), ("lack", "8"))

    def test_edges(self):
        self.assertEqual(self.check(CASE, of("698"), {"88": 0}), ("bought", 0, {}, dict.fromkeys("0689", 0)))
        self.assertEqual(self.check(Case(FONT), of(""), {})[:3], ("bought", 0, {}))
        self.assertEqual(self.check(Case(FONT), of("8"), {"88": 0, "8-": 1})[:3], ("bought", 0, {"88": 1}))
        self.assertEqual(self.check(Case(FONT), of("80"), {"8-": MOST, "00": MOST})[1], 2 * MOST)
        self.assertEqual(self.check(Case(FONT), of("80"), {"8-": MOST, "66": 0}), ("lack", "0"))
        wants = Wants(FONT, {"8": 10 ** 99, "6": MOST})
        self.assertEqual(self.check(CASE, wants, {"69": 2, "8-": MOST})[1], 2 * (MOST - 3) + MOST * (10 ** 99 - 1))
        full = Case(FONT, [("8-", MOST)])
        self.assertEqual(self.check(full, Wants(FONT, {"8": MOST + 5}), {"8-": 3})[:3], ("bought", 15, {"8-": 5}))

    def test_small_cases_against_all_purchases(self):
        chance = random.Random(43)
        seen = {"bought": 0, "lack": 0}
        for case in small_cases(142, 64, 3):
            for wants in shuffled(chance.random(), small_wants(case.font, 4), 8):
                prices = some_table(chance, case.font, [0, 1, 2, 2, 3, 7])
                told = self.check(case, wants, prices)
                self.assertEqual(told[1] if told[0] == "bought" else None, least_cost(case, wants, prices))
                seen[told[0]] += 1
        self.assertGreater(min(seen.values()), 50)

    def test_large_cases(self):
        chance = random.Random(44)
        fonts = [Font.digits(), Font("0123456789"), Font("abcdefghij", [("a", "b"), ("c", "d"), ("e", "f")])]
        seen = {"bought": 0, "lack": 0}
        for case in [*large_cases(145, 30), *large_cases(146, 12, fonts)]:
            wants = large_wants(chance, case) + large_wants(chance, case)
            told = self.check(case, wants, great_table(chance, case.font, chance.choice([3, 30])))
            seen[told[0]] += 1
        self.assertGreater(min(seen.values()), 5)


class AcceptedPurchasesTest(PlatesTest):

    def check_variants(self, case, wants, prices):
        told = purchase(case, wants, prices)
        seen = {True: 0, False: 0}
        for value in variants(told):
            right = is_right(case, wants, prices, value)
            seen[right] += 1
            with self.subTest(value=value):
                self.assertIs(is_purchase(case, wants, prices, value), right)
        return seen

    def test_changed_parts(self):
        font = Font("01")
        case = Case(font, [("0-", 1)])
        seen = [self.check_variants(case, Wants.of(font, row), prices) for row in ["", "0", "01", "0011", "111"]
                for prices in [{}, {"01": 2, "00": 1}, {"01": 1, "1-": 1, "00": 0}, {"0-": 0}]]
        self.assertTrue(all(one[False] for one in seen))
        self.assertGreater(sum(one[True] for one in seen), 50)

    def test_changed_parts_of_other_cases(self):
        self.check_variants(CASE, of("8869"), {"88": 7, "68": 4, "69": 0})
        self.check_variants(CASE, of("880000"), {"69": 0})

    def test_cheapest_purchases_with_more_plates_than_signs_are_accepted(self):
        case, wants, prices = Case(FONT), of("8"), {"8-": 1, "00": 0}
        listed = purchase(case, wants, prices)[3]
        for bought, accepted in [({"8-": 1}, True), ({"8-": 1, "00": 10 ** 99}, True), ({"8-": 2}, False),
                                 ({"00": 5}, False)]:
            self.assertIs(is_purchase(case, wants, prices, ("bought", 1, bought, listed)), accepted)

    def test_lacks_that_a_purchase_mends_are_none(self):
        wants = of("880000")
        for signs, prices, accepted in [("8", {}, True), ("0", {}, True), ("08", {}, True), ("80", {}, False),
                                        ("08", {"66": 1}, True),
                                        ("08", {"88": MOST}, False), ("0", {"88": MOST}, True), ("068", {"69": 0}, False),
                                        ("", {}, False), ("6", {}, False), (None, {}, False), (["8"], {}, False)]:
            self.assertIs(is_purchase(CASE, wants, prices, ("lack", signs)), accepted)

    def test_any_other_value(self):
        told = purchase(CASE, of("88"), {"88": 7})
        for value in strange_values() + [told[:3], (told,), [told], (*told, 0), told[1:], ("lack",), ("lack", "8", "8"),
                                         ("bought", "8"), nested(20)]:
            self.assertIs(is_purchase(CASE, of("88"), {"88": 7}, value), False)
        self.assertIs(is_purchase(CASE, of("88"), {"88": 7}, told), True)


class PurchasesErrorsTest(PlatesTest):

    def test_any_other_value_is_no_prices(self):
        tables = strange_tables(FONT) + [{"60": 1}, {"06": 1, "96": 1}]
        for value in tables + [value for value in strange_values() if value != {"06": 2}]:
            with self.subTest(value=value):
                for wants in [of(""), of("888")]:
                    self.assert_value_error(InvalidPrices, value, purchase, CASE, wants, value)
                    self.assert_value_error(InvalidPrices, value, is_purchase, CASE, wants, value, None)

    def test_other_fonts_come_first(self):
        for font in [OTHER, Font("01"), Font("0698", [("6", "9")])]:
            for prices in [{}, None, {"60": 1}]:
                self.assert_error(OtherFont, {}, purchase, CASE, Wants.none(font), prices)
                self.assert_error(OtherFont, {}, is_purchase, CASE, Wants.none(font), prices, None)

    def test_arguments_by_name_and_nothing_is_changed(self):
        prices = {"88": 7, "68": 4}
        told = purchase(prices=prices, wants=of("88"), case=CASE)
        self.assertIs(is_purchase(value=told, prices=prices, wants=of("88"), case=CASE), True)
        self.assertEqual(list(prices.items()), [("88", 7), ("68", 4)])
        told[2].clear()
        told[3].clear()
        prices.clear()
        self.assertEqual(purchase(CASE, of("88"), {"68": 4, "88": 7})[:3], ("bought", 4, {"68": 1}))


if __name__ == "__main__":
    unittest.main()
