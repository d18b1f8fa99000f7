"""Trades for two Sundays: promises 4 and 43."""

import random
import unittest

from hymnplates.cases import Case
from hymnplates.errors import InvalidPrices, InvalidWorths, OtherFont
from hymnplates.fonts import Font, all_kinds
from hymnplates.trades import is_trade, trade
from hymnplates.wants import Wants
from papers import (amount, baskets, dearest, great_number, great_table, hang, is_full_list, is_lasting, is_numbers,
                    is_tuple, is_whole, joined, parted, parts_of, shuffled, some_table, strange_tables, variants, wanted)
from searches import large_cases, large_wants, small_cases, small_wants
from support import CASE, FONT, MOST, OTHER, PlatesTest, nested, of, strange_values


def is_right(case, both, prices, worths, value):
    """Whether a value is a best trade, or a lack that none mends, by the words of the document."""
    worths = worths or {}
    if is_tuple(value, 3, "lack"):
        return is_whole(value[1], 0, 1) and is_lasting(case, both[value[1]], prices, value[2])
    if not is_tuple(value, 5, "trade") or not is_whole(value[1]) or not is_tuple(value[4], 2):
        return False
    _, cost, bought, sold, lists = value
    plates = dict(case.plates)
    if not is_numbers(bought, prices, 1) or not is_numbers(sold, plates, 1):
        return False
    if not all(is_full_list(case.font, one) for one in lists):
        return False
    if any(sold[kind] > plates[kind] for kind in sold) or cost != amount(bought, prices) - amount(sold, worths):
        return False
    if not all(hang(case.font, joined(parted(plates, sold), bought), wants) for wants in both):
        return False
    listed = {kind: sum(dearest(case.font, one, kind) for one in lists) for kind in {**plates, **prices}}
    if any(listed[kind] > prices[kind] for kind in prices):
        return False
    values = sum(plates[kind] * max(worths.get(kind, 0), listed[kind]) for kind in plates)
    return cost == wanted(both[0], lists[0]) + wanted(both[1], lists[1]) - values


def least_cost(case, both, prices, worths):
    """The least cost of all trades, None if none suffices."""
    plates = dict(case.plates)
    costs = []
    for bought in baskets(prices, both[0].total + both[1].total):
        for sold in parts_of(plates):
            left = joined(parted(plates, sold), bought)
            if all(hang(case.font, left, wants) for wants in both):
                costs.append(amount(bought, prices) - amount(sold, worths))
    return min(costs, default=None)


def some_worths(chance, font, prices):
    """Worths, none above the price."""
    worths = some_table(chance, font, [0, 1, 2, 5])
    for kind in prices:
        if chance.randrange(2):
            worths[kind] = chance.choice([0, prices[kind], chance.randrange(prices[kind] + 1)])
    return {kind: min(worths[kind], prices.get(kind, worths[kind])) for kind in worths}


class TradesTest(PlatesTest):

    def check(self, case, first, second, prices, *worths):
        told = trade(case, first, second, prices, *worths)
        full = worths[0] if worths else None
        self.assertTrue(is_right(case, (first, second), prices, full, told))
        self.assertIs(is_trade(case, first, second, prices, full, told), True)
        self.assertEqual(trade(case, first, second, prices, *worths), told)
        if told[0] == "trade":
            self.assertLessEqual(sum(told[2].values()), first.total + second.total)
        return told

    def test_the_examples_of_the_document(self):
        font = Font("01")
        prices = {"01": 5, "0-": 3, "1-": 3}
        self.assertEqual(self.check(Case(font), Wants.of(font, "0"), Wants.of(font, "1"), prices)[:4],
                         ("trade", 5, {"01": 1}, {}))
        self.assertEqual(self.check(Case(font), Wants.of(font, "0"), Wants.none(font), {"1-": 3}), ("lack", 0, "0"))

    def test_a_plate_may_show_other_signs_on_the_second_sunday(self):
        self.assertEqual(self.check(CASE, of("698"), of("998"), {})[:4], ("trade", 0, {}, {}))
        self.assertEqual(self.check(CASE, of("80"), of("86"), {"88": 1}, {"69": 1, "06": 1, "8-": 1})[1], -2)

    def test_edges(self):
        nothing = dict.fromkeys("0689", 0)
        self.assertEqual(self.check(Case(FONT), of(""), of(""), {}), ("trade", 0, {}, {}, (nothing, nothing)))
        self.assertEqual(self.check(CASE, of(""), of(""), {"69": 9}, {"69": 4, "8-": MOST})[:4],
                         ("trade", -8 - MOST, {}, {"69": 2, "8-": 1}))
        self.assertEqual(self.check(CASE, of("88"), of(""), {"88": 7, "8-": 3})[:4], ("trade", 3, {"8-": 1}, {}))
        self.assertEqual(self.check(CASE, of(""), of("88"), {"88": 7, "8-": 3})[:4], ("trade", 3, {"8-": 1}, {}))
        self.assertEqual(self.check(CASE, of(""), of("88"), {"69": 7})[:3], ("lack", 1, "8"))
        self.assertEqual(self.check(CASE, of("00"), of("88"), {"69": 7}), ("lack", 0, "0"))
        self.assertEqual(self.check(Case(FONT), of("8"), of("8"), {"88": 0}, {"88": 0})[:4], ("trade", 0, {"88": 1}, {}))
        self.assertEqual(self.check(Case(FONT), of("8"), of("0"), {"88": MOST, "00": MOST})[1], 2 * MOST)

    def test_plates_that_are_sold_and_bought_for_others(self):
        case = Case(Font("01"), [("01", 2)])
        first, second = Wants.of(case.font, "0"), Wants.of(case.font, "00")
        told = self.check(case, first, second, {"0-": 1, "01": 9}, {"01": 5})
        self.assertEqual(told[:4], ("trade", -8, {"0-": 2}, {"01": 2}))

    def test_worths_equal_to_the_prices(self):
        case = Case(Font("01"), [("01", 2), ("1-", 1)])
        first, second = Wants.of(case.font, "01"), Wants.of(case.font, "0011")
        prices = {"01": 5, "0-": 3, "1-": 3}
        # All plates are worth 13, and four with one sign each cost 12.
        self.assertEqual(self.check(case, first, second, prices, dict(prices))[1], -1)
        self.assertEqual(least_cost(case, (first, second), prices, prices), -1)

    def test_small_cases_against_all_trades(self):
        chance = random.Random(46)
        seen = {"trade": 0, "lack": 0}
        for case in small_cases(147, 64, 3):
            for first in shuffled(chance.random(), small_wants(case.font, 2), 3):
                second = chance.choice(list(small_wants(case.font, 2)))
                prices = some_table(chance, case.font, [0, 1, 2, 3, 4, 7], 4)
                worths = some_worths(chance, case.font, prices)
                told = self.check(case, first, second, prices, worths)
                self.assertEqual(told[1] if told[0] == "trade" else None, least_cost(case, (first, second), prices, worths))
                seen[told[0]] += 1
        self.assertGreater(min(seen.values()), 40)

    def test_large_cases(self):
        chance = random.Random(47)
        fonts = [Font.digits(), Font("0123456789"), Font("abcdefghij", [("a", "b"), ("c", "d"), ("e", "f")])]
        seen = {"trade": 0, "lack": 0}
        for case in [*large_cases(148, 30), *large_cases(149, 12, fonts)]:
            first, second = [large_wants(chance, case) + large_wants(chance, case) for _ in range(2)]
            prices = great_table(chance, case.font, chance.choice([3, 30]))
            told = self.check(case, first, second, prices, some_worths(chance, case.font, prices))
            seen[told[0]] += 1
        self.assertGreater(min(seen.values()), 5)

    def test_thirty_kinds_of_ten_signs(self):
        chance = random.Random(48)
        for font in [Font.digits(), Font("9876543210")]:
            case = Case(font, [(kind, chance.randrange(1, MOST)) for kind in great_table(chance, font, 30)])
            both = [Wants(font, {sign: chance.randrange(3 * MOST) for sign in font.signs}) for _ in range(2)]
            prices = {kind: chance.randrange(1, MOST) for kind in all_kinds(font)}
            told = self.check(case, *both, prices, {kind: chance.randrange(prices[kind]) for kind in prices})
            self.assertTrue(told[2])
            self.assertGreater(sum(price > 0 for one in told[4] for price in one.values()), 6)


class AcceptedTradesTest(PlatesTest):

    def check_variants(self, case, first, second, prices, worths):
        told = trade(case, first, second, prices, worths)
        seen = {True: 0, False: 0}
        for value in variants(told):
            right = is_right(case, (first, second), prices, worths, value)
            seen[right] += 1
            with self.subTest(value=value):
                self.assertIs(is_trade(case, first, second, prices, worths, value), right)
        return seen

    def test_changed_parts(self):
        font = Font("01")
        case = Case(font, [("01", 1), ("0-", 1)])
        rows = [("", ""), ("0", "1"), ("001", "11"), ("111", "0")]
        seen = [self.check_variants(case, Wants.of(font, first), Wants.of(font, second), prices, worths)
                for first, second in rows
                for prices, worths in [({}, None), ({"01": 2, "00": 1}, {"01": 2}),
                                       ({"01": 3, "1-": 1}, {"01": 1, "0-": 5})]]
        self.assertTrue(all(one[False] for one in seen))
        self.assertGreater(sum(one[True] for one in seen), 50)

    def test_changed_parts_of_other_cases(self):
        self.check_variants(CASE, of("8869"), of("0066"), {"88": 7, "68": 4, "69": 0, "06": 3}, {"8-": 3, "06": 2})
        self.check_variants(CASE, of("88"), of("8888"), {"69": 7}, None)

    def test_lacks_of_the_other_wants(self):
        for value, accepted in [(("lack", 0, "8"), True), (("lack", 1, "8"), False), (("lack", 1, "0"), True),
                                (("lack", 0, "0"), False),
                                (("lack", True, "0"), False), (("lack", False, "8"), False), (("lack", 2, "0"), False),
                                (("lack", -1, "0"), False), (("lack", "1", "0"), False), (("lack", None, "0"), False),
                                (("lack", 1.0, "0"), False), (("lack", [1], "0"), False), (("lack", 1, "00"), False)]:
            self.assertIs(is_trade(CASE, of("88"), of("00"), {}, None, value), accepted)
            self.assertIs(is_trade(CASE, of("88"), of("00"), {"08": 5}, None, value), False)

    def test_a_kind_that_is_bought_and_sold(self):
        case = Case(Font("01"), [("01", 1)])
        wants = Wants.of(case.font, "0")
        cost, lists = 0, trade(case, wants, wants, {"01": 3}, {"01": 3})[4]
        for bought, sold, accepted in [({}, {}, True), ({"01": 1}, {"01": 1}, True), ({"01": 2}, {"01": 2}, False),
                                       ({}, {"01": 1}, False)]:
            self.assertIs(is_trade(case, wants, wants, {"01": 3}, {"01": 3}, ("trade", cost, bought, sold, lists)), accepted)

    def test_any_other_value(self):
        told = trade(CASE, of("88"), of("8"), {"88": 7})
        for value in strange_values() + [told[:4], (told,), [told], (*told, 0), told[1:], ("lack", 0), ("lack", "8"),
                                         nested(20)]:
            self.assertIs(is_trade(CASE, of("88"), of("8"), {"88": 7}, None, value), False)
        self.assertIs(is_trade(CASE, of("88"), of("8"), {"88": 7}, None, told), True)


class TradesErrorsTest(PlatesTest):

    def test_any_other_value_is_no_prices(self):
        for value in strange_tables(FONT) + [value for value in strange_values() if value != {"06": 2}]:
            with self.subTest(value=value):
                for worths in [None, {"06": MOST}, "wrong"]:
                    self.assert_value_error(InvalidPrices, value, trade, CASE, of("888"), of(""), value, worths)
                    self.assert_value_error(InvalidPrices, value, is_trade, CASE, of("888"), of(""), value, worths, None)

    def test_any_other_value_is_no_worths(self):
        values = [value for value in strange_tables(FONT) + strange_values() if value is not None and value != {"06": 2}]
        for value in values + [{"06": 6}, {"06": MOST}, {"88": 1}, {"06": 5, "88": 1}, {"69": MOST, "06": 6}]:
            with self.subTest(value=value):
                self.assert_value_error(InvalidWorths, value, trade, CASE, of("888"), of(""), {"06": 5, "88": 0}, value)
                self.assert_value_error(InvalidWorths, value, is_trade, CASE, of("888"), of(""), {"06": 5, "88": 0},
                                        value, None)
        for value in [None, {}, {"06": 5}, {"06": 0, "88": 0}, {"69": MOST}, {"00": MOST}]:
            self.assertIs(is_trade(CASE, of("888"), of(""), {"06": 5, "88": 0}, value, None), False)

    def test_other_fonts_come_first(self):
        for font in [OTHER, Font("01"), Font("0698", [("6", "9")])]:
            for wants in [(Wants.none(font), of("")), (of(""), Wants.none(font)), (Wants.none(font), Wants.none(font))]:
                for prices, worths in [({}, None), (None, None), ({}, 7), ({"60": 1}, 7)]:
                    self.assert_error(OtherFont, {}, trade, CASE, *wants, prices, worths)
                    self.assert_error(OtherFont, {}, is_trade, CASE, *wants, prices, worths, None)

    def test_arguments_by_name_and_nothing_is_changed(self):
        prices, worths = {"88": 7, "68": 4}, {"88": 6, "69": 2}
        told = trade(worths=worths, prices=prices, second=of("00"), first=of("880"), case=CASE)
        self.assertEqual(told[0], "lack")
        told = trade(worths=worths, prices=prices, second=of("88"), first=of("8869"), case=CASE)
        self.assertIs(is_trade(value=told, worths=worths, prices=prices, second=of("88"), first=of("8869"), case=CASE), True)
        self.assertEqual([list(prices.items()), list(worths.items())], [[("88", 7), ("68", 4)], [("88", 6), ("69", 2)]])
        first = repr(told)
        told[2].clear()
        told[3].clear()
        told[4][0].clear()
        self.assertEqual(repr(trade(CASE, of("8869"), of("88"), {"68": 4, "88": 7}, worths)), first)


if __name__ == "__main__":
    unittest.main()
