"""Ranges of uses, plans with a number of uses, and spare plates: promise 33."""

import random
import unittest

from hymnplates.cases import Case
from hymnplates.errors import InvalidKind, Lacking, OtherFont, OutOfRange, UnknownSign
from hymnplates.fonts import Font, all_kinds, all_sets
from hymnplates.hanging import is_plan
from hymnplates.uses import plan_with, spare, use_range
from hymnplates.wants import Wants
from searches import (excess, is_right_plan, large_cases, large_wants, plain_shortage, small_cases, small_wants,
                      wanted_by, ways_by_counts)
from support import CASE, FONT, MOST, OTHER, PlatesTest, no_numbers, of, strange_values


class ExamplesTest(PlatesTest):

    def test_examples_of_the_document(self):
        case = Case(Font("0689", [("6", "9")]), [("69", 2), ("8-", 1), ("06", 1)])
        told = [use_range(case, Wants.of(case.font, "69"), "96", "6"), spare(case, Wants.of(case.font, "699"), "69")]
        self.assertEqual(told, [(0, 1), 0])
        self.assert_error(Lacking, {"lack": "8"}, spare, case, Wants.of(case.font, "88"), "69")
        plan = plan_with(case, Wants.of(case.font, "69"), "69", "6", 1)
        self.assertEqual([plan[("69", "6")], is_plan(case, Wants.of(case.font, "69"), plan)], [1, True])


class SearchTest(PlatesTest):

    def test_ranges_and_plans(self):
        chance = random.Random(21)
        for case in small_cases(22, 40):
            ways = ways_by_counts(case)
            for wants in chance.sample(list(small_wants(case.font, 4)), 12):
                plans = ways.get(wanted_by(wants), [])
                for kind in chance.sample(all_kinds(case.font), 3) + list(case.kinds):
                    for sign in case.font.signs:
                        self.check(case, wants, (kind, sign), plans)

    def check(self, case, wants, use, plans):
        if not plans:
            lack = plain_shortage(case, wants)[1]
            self.assert_error(Lacking, {"lack": lack}, use_range, case, wants, *use)
            self.assert_error(Lacking, {"lack": lack}, plan_with, case, wants, *use, 0)
            return
        numbers = {plan.get(use, 0) for plan in plans}
        least, greatest = use_range(case, wants, *use)
        self.assertEqual(sorted(numbers), list(range(least, greatest + 1)))
        for number in range(-1, greatest + 3):
            if number in numbers:
                plan = plan_with(case, wants, *use, number)
                self.assertEqual(plan.get(use, 0), number)
                self.assertIn(plan, plans)
            else:
                self.assert_value_error(OutOfRange, number, plan_with, case, wants, *use, number)

    def test_spare_plates(self):
        chance = random.Random(23)
        for case in small_cases(24, 40):
            for wants in chance.sample(list(small_wants(case.font, 4)), 10):
                for kind in all_kinds(case.font):
                    if wanted_by(wants) not in ways_by_counts(case):
                        self.assert_error(Lacking, {"lack": plain_shortage(case, wants)[1]}, spare, case, wants, kind)
                        continue
                    many = spare(case, wants, kind)
                    for taken in range(case[kind] + 1):
                        left = case - Case(case.font, [(kind, taken)]) if taken else case
                        self.assertIs(wanted_by(wants) in ways_by_counts(left), taken <= many)
                    self.assertLessEqual(many, case[kind])


class LargeTest(PlatesTest):

    def test_large_counts_against_sums_over_all_sets(self):
        chance = random.Random(25)
        hung = 0
        for case in large_cases(26, 200):
            wants = large_wants(chance, case)
            if plain_shortage(case, wants)[0] == 0:
                hung += 1
                for kind in case.kinds:
                    self.assertEqual(spare(case, wants, kind), self.plain_spare(case, wants, kind))
                    for sign in case.font.shown(kind):
                        self.check(case, wants, kind, sign)
        self.assertGreater(hung, 60)

    def plain_spare(self, case, wants, kind):
        shown = case.font.shown(kind)
        rooms = [-excess(case, wants, signs) for signs in all_sets(case.font) if set(signs) & set(shown)]
        return min([case[kind], *rooms])

    def check(self, case, wants, kind, sign):
        shown = set(case.font.shown(kind))
        excesses = {signs: excess(case, wants, signs) for signs in all_sets(case.font)}
        without = [-excesses[signs] for signs in excesses if sign not in signs and set(signs) & shown]
        alone = [case[kind] + excesses[signs] for signs in excesses if set(signs) & shown == {sign}]
        least, greatest = max([0, *alone]), min([case[kind], wants[sign], *without])
        self.assertEqual(use_range(case, wants, kind, sign), (least, greatest))
        for number in {least, greatest, (least + greatest) // 2}:
            plan = plan_with(case, wants, kind, sign, number)
            self.assertEqual(plan.get((kind, sign), 0), number)
            self.assertTrue(is_right_plan(case, wants, plan))
        for number in [least - 1, greatest + 1, -10 ** 30, 10 ** 60]:
            self.assert_value_error(OutOfRange, number, plan_with, case, wants, kind, sign, number)


class EdgesTest(PlatesTest):

    def test_both_orders_of_sides(self):
        for kind in ["69", "96"]:
            self.assertEqual(use_range(CASE, of("69"), kind, "6"), (0, 1))
            self.assertEqual(spare(CASE, of("69"), kind), 1)
            plan = plan_with(CASE, of("99"), kind, "9", 2)
            self.assertEqual(plan, {("69", "9"): 2})

    def test_a_sign_that_the_kind_does_not_show(self):
        for kind, sign in [("69", "0"), ("69", "8"), ("8-", "6"), ("-8", "0")]:
            self.assertEqual(use_range(CASE, of("698"), kind, sign), (0, 0))
            self.assertTrue(is_plan(CASE, of("698"), plan_with(CASE, of("698"), kind, sign, 0)))
            for number in [1, -1]:
                self.assert_value_error(OutOfRange, number, plan_with, CASE, of("698"), kind, sign, number)

    def test_a_kind_of_which_there_are_no_plates(self):
        for kind, sign in [("88", "8"), ("60", "9"), ("00", "0")]:
            case = CASE - Case(FONT, [("06", 1)])
            self.assertEqual([use_range(case, of("698"), kind, sign), spare(case, of("698"), kind)], [(0, 0), 0])
            self.assertTrue(is_plan(case, of("698"), plan_with(case, of("698"), kind, sign, 0)))
            self.assert_value_error(OutOfRange, 1, plan_with, case, of("698"), kind, sign, 1)

    def test_a_case_without_plates(self):
        case = Case(FONT)
        self.assertEqual([use_range(case, of(""), "69", "6"), spare(case, of(""), "69")], [(0, 0), 0])
        self.assertEqual(plan_with(case, of(""), "69", "6", 0), {})
        self.assert_error(Lacking, {"lack": "8"}, spare, case, of("8"), "69")

    def test_nothing_is_wanted(self):
        self.assertEqual([use_range(CASE, of(""), "69", "6"), spare(CASE, of(""), "69")], [(0, 0), 2])
        self.assertEqual(plan_with(CASE, of(""), "69", "6", 0), {})

    def test_plates_that_must_show_a_sign(self):
        case = Case(Font("01"), [("01", MOST), ("0-", MOST - 1)])
        wants = Wants(case.font, {"0": MOST + 5, "1": 7})
        self.assertEqual(use_range(case, wants, "01", "0"), (6, MOST - 7))
        self.assertEqual(use_range(case, wants, "01", "1"), (7, 7))
        self.assertEqual(use_range(case, wants, "0-", "0"), (12, MOST - 1))
        self.assertEqual([spare(case, wants, "01"), spare(case, wants, "0-")], [MOST - 13, MOST - 13])
        self.assertEqual(plan_with(case, wants, "01", "0", 6), {("01", "0"): 6, ("01", "1"): 7, ("0-", "0"): MOST - 1})

    def test_wants_at_the_bound(self):
        case = Case(FONT, [("06", MOST), ("0-", MOST)])
        self.assertEqual(use_range(case, of("0") * MOST, "06", "0"), (0, MOST))
        self.assertEqual(use_range(case, of("0") * MOST + of("0") * MOST, "06", "0"), (MOST, MOST))
        self.assert_error(Lacking, {"lack": "0"}, use_range, case, of("0") * MOST * 2 + of("0"), "06", "0")


class ErrorsTest(PlatesTest):

    def test_any_other_value_is_no_kind(self):
        for value in strange_values() + ["", "0", "--", "01", "069", ("6", "9"), [], {}]:
            with self.subTest(value=value):
                self.assert_value_error(InvalidKind, value, use_range, CASE, of("88"), value, None)
                self.assert_value_error(InvalidKind, value, plan_with, CASE, of("88"), value, None, None)
                self.assert_value_error(InvalidKind, value, spare, CASE, of("88"), value)

    def test_any_other_value_is_no_sign(self):
        for value in strange_values() + ["", "06", "1", "-", ("6",), [], {}]:
            with self.subTest(value=value):
                self.assert_value_error(UnknownSign, value, use_range, CASE, of("88"), "69", value)
                self.assert_value_error(UnknownSign, value, plan_with, CASE, of("88"), "69", value, None)

    def test_any_other_value_is_out_of_range(self):
        for value in no_numbers(0, 1):
            with self.subTest(value=value):
                self.assert_value_error(OutOfRange, value, plan_with, CASE, of("69"), "69", "6", value)
        for value in no_numbers(1, 2):
            with self.subTest(value=value):
                self.assert_value_error(OutOfRange, value, plan_with, CASE, of("669"), "69", "6", value)

    def test_the_order_of_errors(self):
        other = Wants.of(OTHER, "88")
        self.assert_error(OtherFont, {}, use_range, CASE, other, None, None)
        self.assert_error(OtherFont, {}, plan_with, CASE, other, None, None, None)
        self.assert_error(OtherFont, {}, spare, CASE, other, None)
        self.assert_value_error(InvalidKind, "x", use_range, CASE, of("88"), "x", "x")
        self.assert_value_error(UnknownSign, "x", use_range, CASE, of("88"), "69", "x")
        self.assert_error(Lacking, {"lack": "8"}, use_range, CASE, of("88"), "69", "8")
        self.assert_error(Lacking, {"lack": "8"}, use_range, CASE, of("88"), "00", "0")
        self.assert_error(Lacking, {"lack": "8"}, plan_with, CASE, of("88"), "69", "6", None)
        self.assert_value_error(OutOfRange, None, plan_with, CASE, of("8"), "69", "6", None)

    def test_arguments_by_name(self):
        self.assertEqual(use_range(sign="6", kind="69", wants=of("69"), case=CASE), (0, 1))
        self.assertEqual(plan_with(number=2, sign="6", kind="69", wants=of("66"), case=CASE), {("69", "6"): 2})
        self.assertEqual(spare(kind="69", wants=of("69"), case=CASE), 1)

    def test_what_is_returned_is_new(self):
        plan_with(CASE, of("66"), "69", "6", 2).clear()
        self.assertEqual(plan_with(CASE, of("66"), "69", "6", 2), {("69", "6"): 2})
        self.assertIs(type(use_range(CASE, of("66"), "69", "6")), tuple)


if __name__ == "__main__":
    unittest.main()
