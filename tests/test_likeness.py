"""Exact numbers, and cases that are alike: promise 34."""

import itertools
import random
import unittest

from hymnplates.cases import Case
from hymnplates.errors import InvalidBearings, NoBearing, OtherFont
from hymnplates.fonts import Font, all_kinds, all_sets
from hymnplates.likeness import alike, exact, exact_of
from searches import large_cases, small_cases
from support import CASE, FONT, MOST, OTHER, PlatesTest, nested, strange_values

GREATEST = 10 ** 60


def bearings_of(case):
    return {signs: case.bearing(signs) for signs in all_sets(case.font) if signs}


def plain_numbers(font, bearings):
    """The exact numbers of all non-empty sets, by counting in and out."""
    sets = all_sets(font)
    within = {}
    for signs in sets:
        outside = "".join(sign for sign in font.signs if sign not in signs)
        within[signs] = bearings[font.signs] - (bearings[outside] if outside else 0)
    numbers = {}
    for signs in sets[1:]:
        parts = [part for part in sets if set(part) <= set(signs)]
        numbers[signs] = sum(within[part] * (-1) ** (len(signs) - len(part)) for part in parts)
    return numbers


class ExamplesTest(PlatesTest):

    def test_examples_of_the_document(self):
        case = Case(Font("0689", [("6", "9")]), [("69", 2), ("8-", 1), ("06", 1)])
        told = [exact(case), alike(case, case - Case(case.font, [("8-", 1)]))]
        self.assertEqual(told, [{"8": 1, "69": 2, "069": 1}, ("8", 1, 0)])
        self.assertEqual(exact_of(Font("01"), {"0": 2, "1": 1, "01": 2}), {"0": 1, "01": 1})
        wrong = {"0": 1, "1": 1, "01": 3}
        self.assert_error(NoBearing, {"lack": "01"}, exact_of, Font("01"), wrong)


class ExactTest(PlatesTest):

    def test_plates_that_show_just_these_signs(self):
        for case in [*small_cases(31, 60), *large_cases(32, 60)]:
            numbers = {}
            for kind, count in case.plates:
                numbers[case.font.shown(kind)] = numbers.get(case.font.shown(kind), 0) + count
            told = exact(case)
            self.assertEqual(told, numbers)
            self.assertEqual(list(told), [signs for signs in all_sets(case.font) if signs in numbers])
            self.assertEqual(told, {signs: number for signs, number in plain_numbers(case.font, bearings_of(case)).items()
                                    if number})

    def test_exact_numbers_of_bearings(self):
        for case in [*small_cases(33, 60), *large_cases(34, 60)]:
            told = exact_of(case.font, bearings_of(case))
            self.assertEqual(list(told.items()), list(exact(case).items()))

    def test_sets_that_no_kind_shows_alone(self):
        chance = random.Random(35)
        for font in [Font("01"), Font("ba9"), FONT, Font("01234")]:
            for _ in range(10):
                sets = chance.sample(all_sets(font)[1:], chance.randrange(1, 4))
                numbers = {signs: chance.choice([1, 10 ** 58, chance.randrange(1, 10 ** 59)]) for signs in sets}
                bearings = {signs: sum(many for other, many in numbers.items() if set(other) & set(signs))
                            for signs in all_sets(font)[1:]}
                self.assertEqual(exact_of(font, bearings), numbers)
        # Without turns a kind shows two signs at most.
        self.assertEqual(exact_of(Font("012"), {signs: 5 for signs in all_sets(Font("012"))[1:]}), {"012": 5})

    def test_nothing_at_all(self):
        self.assertEqual(exact(Case(FONT)), {})
        self.assertEqual(exact_of(FONT, {signs: 0 for signs in all_sets(FONT)[1:]}), {})

    def test_all_signs(self):
        font = Font.digits()
        case = Case(font, [(kind, MOST - at) for at, kind in enumerate(all_kinds(font))])
        self.assertEqual(sum(exact(case).values()), case.size)
        self.assertEqual(exact_of(font, bearings_of(case)), exact(case))

    def test_kinds_in_both_orders(self):
        self.assertEqual(exact(Case(FONT, [("96", 2), ("-8", 1), ("60", 1)])), exact(CASE))


class AlikeTest(PlatesTest):

    def test_cases_beside_each_other(self):
        told = {True: 0, False: 0}
        for font in [Font("69", [("6", "9")]), Font("01"), FONT]:
            cases = [case for case in small_cases(36, 200, 2) if case.font == font][:20]
            kinds = all_kinds(font)[:5]
            cases += [Case(font, [(kind, 1)]) for kind in kinds] + [Case(font)]
            for one, other in itertools.product(cases, repeat=2):
                apart = [(signs, one.bearing(signs), other.bearing(signs)) for signs in all_sets(font)
                         if one.bearing(signs) != other.bearing(signs)]
                self.assertEqual(alike(one, other), apart[0] if apart else None)
                self.assertIs(alike(one, other) is None, exact(one) == exact(other))
                told[not apart] += 1
        self.assertGreater(min(told.values()), 30)

    def test_other_kinds_that_show_the_same(self):
        font = Font("69", [("6", "9")])
        cases = [Case(font, [(kind, 3)]) for kind in ["66", "69", "99", "6-", "9-"]]
        for one, other in itertools.product(cases, repeat=2):
            self.assertIsNone(alike(one, other))

    def test_large_cases(self):
        font = Font("01")
        one, other = Case(font, [("01", MOST), ("00", 1)]), Case(font, [("01", MOST)])
        self.assertEqual([alike(one, other), alike(other, one)], [("0", MOST + 1, MOST), ("0", MOST, MOST + 1)])
        self.assertIsNone(alike(one, Case(font, [("0-", 1), ("01", MOST)])))
        # Single signs have the same bearings, and only the set of both tells the cases apart.
        both, single = Case(font, [("01", 1)]), Case(font, [("0-", 1), ("1-", 1)])
        self.assertEqual(alike(both, single), ("01", 1, 2))

    def test_other_fonts(self):
        for font in [OTHER, Font("01"), Font("0698", [("6", "9")])]:
            self.assert_error(OtherFont, {}, alike, CASE, Case(font))
            self.assert_error(OtherFont, {}, alike, Case(font), CASE)


class WrongBearingsTest(PlatesTest):

    RIGHT = {"0": 2, "1": 1, "01": 2}

    def assert_wrong(self, value):
        with self.subTest(value=value):
            self.assert_value_error(InvalidBearings, value, exact_of, Font("01"), value)

    def test_any_other_value(self):
        for value in strange_values() + ["", [], (), {}, list(self.RIGHT.items()), [self.RIGHT], "01"]:
            self.assert_wrong(value)

    def test_sets_too_few_or_too_many(self):
        for signs in self.RIGHT:
            self.assert_wrong({other: self.RIGHT[other] for other in self.RIGHT if other != signs})
        for key in ["", "10", "2", "00", "011", "-", 0, None, ("0",), True, ("0", "1")]:
            self.assert_wrong({**self.RIGHT, key: 0})
            self.assert_wrong({**self.RIGHT, key: 2})

    def test_signs_in_another_order(self):
        self.assert_wrong({"0": 2, "1": 1, "10": 2})
        bearings = bearings_of(CASE)
        for signs in bearings:
            for order in itertools.permutations(signs):
                other = {"".join(order) if key == signs else key: bearings[key] for key in bearings}
                if "".join(order) != signs:
                    self.assert_value_error(InvalidBearings, other, exact_of, FONT, other)
        font = Font("10")
        self.assertEqual(exact_of(font, {"0": 2, "1": 1, "10": 2}), {"0": 1, "10": 1})
        self.assert_value_error(InvalidBearings, self.RIGHT, exact_of, font, self.RIGHT)

    def test_other_numbers(self):
        for number in [-1, True, False, None, "1", 1.0, [1], (1,), {}, nested(20), GREATEST + 1, -GREATEST, 10 ** 99]:
            for signs in self.RIGHT:
                self.assert_wrong({**self.RIGHT, signs: number})

    def test_bounds_of_numbers(self):
        for number in [0, 1, GREATEST - 1, GREATEST]:
            told = exact_of(Font("01"), {"0": number, "1": number, "01": number})
            self.assertEqual(told, {"01": number} if number else {})

    def test_the_first_set_below_zero(self):
        chance = random.Random(37)
        below = 0
        for _ in range(300):
            font = chance.choice([Font("01"), Font("ba0"), FONT])
            bearings = {signs: chance.randrange(len(signs) + 3) + 3 * len(signs) for signs in all_sets(font)[1:]}
            numbers = plain_numbers(font, bearings)
            wrong = [signs for signs in numbers if numbers[signs] < 0]
            if wrong:
                below += 1
                self.assert_error(NoBearing, {"lack": wrong[0]}, exact_of, font, bearings)
            else:
                self.assertEqual(exact_of(font, bearings), {signs: numbers[signs] for signs in numbers if numbers[signs]})
        self.assertGreater(below, 50)
        self.assert_error(NoBearing, {"lack": "0"}, exact_of, Font("01"), {"0": 1, "1": 2, "01": 1})
        self.assert_error(NoBearing, {"lack": "1"}, exact_of, Font("01"), {"0": 2, "1": 1, "01": 1})
        self.assert_error(NoBearing, {"lack": "0"}, exact_of, Font("01"), {"0": 2, "1": 2, "01": 1})
        self.assert_error(NoBearing, {"lack": "01"}, exact_of, Font("01"), {"0": 0, "1": 0, "01": GREATEST})


class ConventionsTest(PlatesTest):

    def test_the_order_of_keys_means_nothing(self):
        bearings = bearings_of(CASE)
        told = exact_of(FONT, dict(reversed(list(bearings.items()))))
        self.assertEqual(list(told.items()), [("8", 1), ("69", 2), ("069", 1)])

    def test_nothing_that_is_passed_is_changed(self):
        for bearings in [bearings_of(CASE), {"0": 1}, {signs: len(signs) ** 2 for signs in all_sets(FONT)[1:]}]:
            before = list(bearings.items())
            try:
                told = exact_of(FONT, bearings)
                told.clear()
            except (InvalidBearings, NoBearing):
                pass
            self.assertEqual(list(bearings.items()), before)

    def test_what_is_returned_is_new(self):
        exact(CASE).clear()
        exact_of(FONT, bearings_of(CASE)).clear()
        self.assertEqual(exact(CASE), {"8": 1, "69": 2, "069": 1})
        self.assertEqual(exact_of(FONT, bearings_of(CASE)), exact(CASE))

    def test_arguments_by_name(self):
        self.assertEqual(exact(case=CASE), exact_of(bearings=bearings_of(CASE), font=FONT))
        self.assertEqual(alike(other=Case(FONT), case=CASE), ("0", 1, 0))


if __name__ == "__main__":
    unittest.main()
