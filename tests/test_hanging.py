"""Plans and lacks, shortages, worst sets and lots: promises 4, 30 and 31."""

import itertools
import random
import unittest

from hymnplates.cases import Case
from hymnplates.errors import OtherFont
from hymnplates.fonts import Font, all_kinds, all_sets
from hymnplates.hanging import answer, hangs, is_lack, is_plan, lots, shortage, worst_sets
from hymnplates.wants import Wants
from searches import (all_ways, excess, is_right_plan, large_cases, large_wants, plain_shortage, plain_worst_sets,
                      shown_by, small_cases, small_wants, wanted_by, ways_by_counts)
from support import CASE, FONT, MOST, OTHER, PlatesTest, nested, of, strange_values


class ExamplesTest(PlatesTest):

    def test_examples_of_the_document(self):
        case = Case(Font("0689", [("6", "9")]), [("69", 2), ("8-", 1), ("06", 1)])
        self.assertEqual(answer(case, Wants.of(case.font, "6988")), ("lack", "8"))
        told = [shortage(case, Wants.of(case.font, "6988")), shortage(case, Wants.of(case.font, "699"))]
        self.assertEqual(told, [(1, "8", "8"), (0, "", "069")])
        told = [list(worst_sets(case, Wants.of(case.font, "699"))), lots(case, Wants.of(case.font, "699"))]
        self.assertEqual(told, [["", "69", "069"], ["0", "69", "8"]])
        told = answer(Case(Font("01"), [("0-", 1)]), Wants.of(Font("01"), "0"))
        self.assertEqual(told, ("plan", {("0-", "0"): 1}))
        self.assertIs(is_lack(case, Wants.of(case.font, "88"), "8"), True)


class SearchTest(PlatesTest):
    """Small cases and all small wants against all choices of a sign or none for each plate."""

    def test_plans_and_lacks(self):
        told = {"plan": 0, "lack": 0}
        for case in small_cases(1, 60):
            ways = ways_by_counts(case)
            for wants in small_wants(case.font, 4):
                plans = ways.get(wanted_by(wants), [])
                kind, value = answer(case, wants)
                told[kind] += 1
                self.assertEqual(kind, "plan" if plans else "lack")
                self.assertIs(hangs(case, wants), kind == "plan")
                if plans:
                    self.assertIn(value, plans)
                    self.assertIs(is_plan(case, wants, value), True)
                else:
                    self.assertGreater(excess(case, wants, value), 0)
                    self.assertIs(is_lack(case, wants, value), True)
                self.assertEqual(answer(case, wants), (kind, value))
        self.assertGreater(min(told.values()), 400)

    def test_just_the_plans_are_plans(self):
        for case in small_cases(2, 40, 3):
            ways = list(all_ways(case))
            for wants in small_wants(case.font, 3):
                for way in ways:
                    self.assertIs(is_plan(case, wants, way), shown_by(case.font, way) == wanted_by(wants))

    def test_just_the_lacks_are_lacks(self):
        for case in small_cases(3, 24):
            for wants in small_wants(case.font, 3):
                for signs in all_sets(case.font):
                    self.assertIs(is_lack(case, wants, signs), excess(case, wants, signs) > 0)
                    for order in itertools.permutations(signs):
                        if "".join(order) != signs:
                            self.assertIs(is_lack(case, wants, "".join(order)), False)

    def test_shortages(self):
        for case in small_cases(4, 40, 3):
            shown = list(ways_by_counts(case))
            for wants in small_wants(case.font, 5):
                left = [sum(max(0, want - one) for want, one in zip(wanted_by(wants), counts)) for counts in shown]
                self.assertEqual(shortage(case, wants), (min(left), *plain_shortage(case, wants)[1:]))

    def test_worst_sets_and_lots(self):
        for case in small_cases(5, 40):
            for wants in small_wants(case.font, 4):
                worst = plain_worst_sets(case, wants)
                self.assertEqual(list(worst_sets(case, wants)), worst)
                places = {sign: [sign in signs for signs in worst] for sign in case.font.signs}
                told = lots(case, wants)
                self.assertEqual(sorted("".join(told)), sorted(case.font.signs))
                self.assertEqual([lot[0] for lot in told], [sign for sign in case.font.signs
                                                            if any(lot[0] == sign for lot in told)])
                for one, other in itertools.product(case.font.signs, repeat=2):
                    together = any(one in lot and other in lot for lot in told)
                    self.assertIs(together, places[one] == places[other])
                for lot in told:
                    self.assertEqual(lot, "".join(sign for sign in case.font.signs if sign in lot))

    def test_unions_and_intersections_of_worst_sets(self):
        for case in small_cases(6, 40):
            for wants in small_wants(case.font, 3):
                worst = list(worst_sets(case, wants))
                for one, other in itertools.product(worst, repeat=2):
                    union = "".join(sign for sign in case.font.signs if sign in one or sign in other)
                    self.assertIn(union, worst)
                    self.assertIn("".join(sign for sign in one if sign in other), worst)
                _, least, greatest = shortage(case, wants)
                self.assertEqual([worst[0], worst[-1]], [least, greatest])


class LargeTest(PlatesTest):
    """Counts up to 10 ** 30 against sums over all sets of signs."""

    def check(self, case, wants):
        number, least, greatest = plain_shortage(case, wants)
        self.assertEqual(shortage(case, wants), (number, least, greatest))
        kind, value = answer(case, wants)
        self.assertEqual(kind, "lack" if number else "plan")
        self.assertIs(hangs(case, wants), number == 0)
        if number:
            self.assertGreater(excess(case, wants, value), 0)
            self.assertIs(is_lack(case, wants, value), True)
        else:
            self.assertTrue(is_right_plan(case, wants, value))
            self.assertIs(is_plan(case, wants, value), True)
        return kind

    def test_large_counts(self):
        chance = random.Random(7)
        told = [self.check(case, large_wants(chance, case)) for case in large_cases(8, 400)]
        self.assertGreater(min(told.count("plan"), told.count("lack")), 60)

    def test_all_kinds_of_digits(self):
        chance = random.Random(9)
        font = Font.digits()
        case = Case(font, [(kind, chance.randrange(1, MOST)) for kind in all_kinds(font)])
        for _ in range(4):
            self.check(case, large_wants(chance, case))
        full = Case(font, [(kind, MOST) for kind in all_kinds(font)])
        self.assertEqual(answer(full, Wants(font, {"0": 65 * MOST}))[0], "lack")
        self.assertEqual(self.check(full, Wants(font, {sign: 6 * MOST for sign in font.signs})), "plan")

    def test_wants_far_beyond_counts(self):
        wants = Wants(FONT, {"0": 10 ** 99, "8": 1})
        self.assertEqual(answer(CASE, wants), ("lack", "0"))
        self.assertEqual(shortage(CASE, wants), (10 ** 99 - 1, "0", "08"))
        self.assertEqual(shortage(CASE, wants * MOST)[0], 10 ** 129 - 1 + MOST - 1)

    def test_the_last_plate_counts(self):
        case = Case(Font("01"), [("01", MOST), ("0-", MOST)])
        for zeros, ones in [(MOST, MOST), (2 * MOST, 0), (2 * MOST - 1, 1), (MOST + 1, MOST - 1)]:
            self.assertEqual(self.check(case, Wants(case.font, {"0": zeros, "1": ones})), "plan")
        for zeros, ones in [(MOST - 1, MOST + 1), (2 * MOST + 1, 0), (MOST + 1, MOST), (0, MOST + 1)]:
            self.assertEqual(self.check(case, Wants(case.font, {"0": zeros, "1": ones})), "lack")


class EdgesTest(PlatesTest):

    def test_nothing_is_wanted(self):
        for case in [CASE, Case(FONT)]:
            self.assertEqual(answer(case, of("")), ("plan", {}))
            self.assertEqual([hangs(case, of("")), is_plan(case, of(""), {})], [True, True])
            self.assertEqual(shortage(case, of(""))[:2], (0, ""))
            self.assertEqual([is_lack(case, of(""), signs) for signs in all_sets(FONT)], [False] * 16)

    def test_a_case_without_plates(self):
        case = Case(FONT)
        self.assertEqual(shortage(case, of("")), (0, "", "0689"))
        self.assertEqual([list(worst_sets(case, of(""))), lots(case, of(""))], [all_sets(FONT), ["0", "6", "8", "9"]])
        self.assertEqual(shortage(case, of("998")), (3, "89", "0689"))
        self.assertEqual([answer(case, of("998"))[0], hangs(case, of("9"))], ["lack", False])
        self.assertEqual(lots(case, of("0689")), ["0689"])

    def test_the_empty_set_is_the_least_worst_set(self):
        self.assertEqual(shortage(CASE, of("6")), (0, "", ""))
        self.assertEqual([list(worst_sets(CASE, of("6"))), lots(CASE, of("6"))], [[""], ["0689"]])
        self.assertEqual(shortage(CASE, of("8")), (0, "", "8"))
        self.assertEqual(lots(CASE, of("8")), ["069", "8"])

    def test_kinds_with_their_sides_in_both_orders(self):
        case = Case(FONT, [("96", 2), ("-8", 1), ("60", 1)])
        self.assertEqual(case, CASE)
        self.assertEqual([answer(case, of("6988")), answer(case, of("0698"))],
                         [answer(CASE, of("6988")), answer(CASE, of("0698"))])
        self.assertIs(is_plan(case, of("9"), {("69", "9"): 1}), True)
        self.assertIs(is_plan(case, of("9"), {("96", "9"): 1}), False)

    def test_plates_stand_on_their_heads(self):
        case = Case(Font("69", [("6", "9")]), [("66", 1), ("9-", 1)])
        for row in ["69", "66", "99", "96"]:
            self.assertEqual(answer(case, Wants.of(case.font, row))[0], "plan")
        self.assertEqual(answer(case, Wants.of(case.font, "666")), ("lack", "6"))


class CheckersTest(PlatesTest):

    def test_any_other_value_is_no_plan(self):
        wants = of("698")
        plan = {("69", "6"): 1, ("69", "9"): 1, ("8-", "8"): 1}
        self.assertIs(is_plan(CASE, wants, plan), True)
        self.assertIs(is_plan(CASE, wants, dict(reversed(list(plan.items())))), True)
        for value in strange_values() + [[], (), "", list(plan.items()), tuple(plan.items()), [plan], {"plan": plan},
                                         ("plan", plan), list(plan), str(plan), {}]:
            with self.subTest(value=value):
                self.assertIs(is_plan(CASE, wants, value), False)

    def test_other_keys_are_no_uses(self):
        plan = {("69", "6"): 1, ("69", "9"): 1}
        wrong = [("8-", "8", "8"), ("8-",), ("-8", "8"), ("8-", ""), ("8-", "-"), ("8-", "0"), ("8-", "6"), ("88", "8"),
                 ("8", "8"), ("", "8"), ("--", "8"), ("8-8", "8"), "8-", "8-8", 8, None, True, (), (8, 8), (None, "8"),
                 ("8-", None), ("8-", 8), ("8-", ("8",)), (("8-",), "8"), ("8-", "08"), (("8-", "8"),), ("x-", "x"),
                 ("8-", "x"), ("89", "8")]
        for key in wrong:
            with self.subTest(key=key):
                self.assertIs(is_plan(CASE, of("698"), {**plan, key: 1}), False)
                self.assertIs(is_plan(CASE, of("69"), {**plan, key: 0}), False)
        self.assertIs(is_plan(CASE, of("698"), {**plan, ("8-", "8"): 1}), True)

    def test_a_sign_that_is_a_part_of_what_is_shown_but_no_sign(self):
        case = Case(FONT, [("06", 2)])
        self.assertIs(is_plan(case, of(""), {("06", ""): 1}), False)
        self.assertIs(is_plan(case, of("06"), {("06", "06"): 2}), False)

    def test_other_numbers(self):
        for number in [0, -1, 2, True, False, None, "1", 1.0, [1], (1,), {1: 1}, nested(20), 10 ** 99, -10 ** 60]:
            with self.subTest(number=number):
                self.assertIs(is_plan(CASE, of("8"), {("8-", "8"): number}), False)
                self.assertIs(is_plan(CASE, of("80"), {("06", "0"): 1, ("8-", "8"): number}), False)
        self.assertIs(is_plan(CASE, of(""), {("8-", "8"): 0}), False)

    def test_too_many_plates_of_a_kind(self):
        self.assertIs(is_plan(CASE, of("6699"), {("69", "6"): 2, ("69", "9"): 2}), False)
        self.assertIs(is_plan(CASE, of("666"), {("69", "6"): 3}), False)
        self.assertIs(is_plan(CASE, of("666"), {("69", "6"): 2, ("06", "6"): 1}), True)
        self.assertIs(is_plan(CASE, of("06"), {("06", "0"): 1, ("06", "6"): 1}), False)

    def test_signs_shown_too_often_or_too_seldom(self):
        for row in ["", "6", "666", "66", "669", "08"]:
            self.assertIs(is_plan(CASE, of(row), {("69", "6"): 2}), row == "66")

    def test_any_other_value_is_no_lack(self):
        self.assertIs(is_lack(CASE, of("88000"), "08"), True)
        for value in strange_values() + ["", "80", "00", "088", "0-", "01", "x", [], ["0"], ("0",), ["0", "8"], {}]:
            with self.subTest(value=value):
                self.assertIs(is_lack(CASE, of("88000"), value), False)

    def test_a_lack_has_more_wants_than_bearing(self):
        self.assertEqual([is_lack(CASE, of("6" * many), "6") for many in range(6)], [False] * 4 + [True] * 2)
        self.assertEqual([is_lack(CASE, of("666" + "8" * many), "68") for many in range(4)], [False] * 2 + [True] * 2)

    def test_errors_of_the_arguments_come_first(self):
        for value in [None, {}, "0"]:
            for font in [OTHER, Font("01"), Font("0698", [("6", "9")])]:
                self.assert_error(OtherFont, {}, is_plan, CASE, Wants.none(font), value)
                self.assert_error(OtherFont, {}, is_lack, CASE, Wants.none(font), value)


class ConventionsTest(PlatesTest):

    def test_other_fonts(self):
        wants = Wants.of(OTHER, "0")
        for action in [answer, hangs, shortage, lots]:
            self.assert_error(OtherFont, {}, action, CASE, wants)

    def test_the_generator_raises_when_its_first_value_is_asked_for(self):
        sets = worst_sets(CASE, Wants.of(OTHER, "0"))
        self.assert_error(OtherFont, {}, next, sets)
        self.assertEqual(list(sets), [])

    def test_a_generator_is_iterated_once_and_may_be_left(self):
        sets = worst_sets(CASE, of("699"))
        self.assertIs(iter(sets), sets)
        self.assertEqual(next(sets), "")
        self.assertEqual(list(worst_sets(CASE, of("699"))), ["", "69", "069"])
        self.assertEqual([list(sets), list(sets)], [["69", "069"], []])

    def test_arguments_by_name(self):
        self.assertEqual(answer(wants=of("6988"), case=CASE), ("lack", "8"))
        self.assertEqual([hangs(wants=of("6"), case=CASE), shortage(wants=of("6"), case=CASE)], [True, (0, "", "")])
        self.assertIs(is_plan(value={}, wants=of(""), case=CASE), True)
        self.assertIs(is_lack(value="8", wants=of("88"), case=CASE), True)
        self.assertEqual([list(worst_sets(wants=of("6"), case=CASE)), lots(wants=of("6"), case=CASE)], [[""], ["0689"]])

    def test_what_is_returned_is_new(self):
        first = answer(CASE, of("698"))
        first[1].clear()
        self.assertTrue(is_plan(CASE, of("698"), answer(CASE, of("698"))[1]))
        lots(CASE, of("8")).clear()
        self.assertEqual(lots(CASE, of("8")), ["069", "8"])

    def test_nothing_that_is_passed_is_changed(self):
        wants = of("698")
        plan = {("69", "6"): 1, ("69", "9"): 1, ("8-", "8"): 1}
        for value in [dict(plan), {**plan, ("06", "0"): 1}, {("8-", "8"): [1]}]:
            before = repr(value)
            is_plan(CASE, wants, value)
            self.assertEqual(repr(value), before)
        self.assertEqual([wants, CASE], [of("986"), Case(FONT, [("69", 2), ("8-", 1), ("06", 1)])])

    def test_kinds_of_the_values(self):
        self.assertIs(type(answer(CASE, of("6"))), tuple)
        self.assertIs(type(shortage(CASE, of("6"))), tuple)
        self.assertIs(type(lots(CASE, of("6"))), list)


if __name__ == "__main__":
    unittest.main()
