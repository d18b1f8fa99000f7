"""Sums over all sets of signs as masks, and plans that need many plates to show other signs."""

import random
import unittest

from hymnplates.cases import Case
from hymnplates.fonts import Font, all_kinds, all_sets
from hymnplates.hanging import answer, is_plan
from hymnplates.masks import (bearings_of, exact_numbers, excesses_of, mask_of, masks_in_order, numbers_of_sums, signs_of,
                              sums_of_wants, sums_within, worst_masks)
from hymnplates.plans import find_plan
from hymnplates.wants import Wants
from searches import excess, large_cases, large_wants
from support import FONT, MOST, PlatesTest


class MasksTest(PlatesTest):

    def test_masks_and_sets(self):
        self.assertEqual([mask_of(FONT, "06"), mask_of(FONT, "96"), mask_of(FONT, ""), signs_of(FONT, 10)], [3, 10, 0, "69"])
        for font in [FONT, Font("ba"), Font.digits()]:
            masks = masks_in_order(font)
            self.assertEqual([signs_of(font, mask) for mask in masks], all_sets(font))
            self.assertEqual(sorted(masks), list(range(1 << len(font))))

    def test_sums_within(self):
        numbers = [random.Random(1).randrange(-9, 10 ** 20) for _ in range(32)]
        sums = sums_within(numbers)
        for mask in range(32):
            self.assertEqual(sums[mask], sum(numbers[part] for part in range(32) if part & mask == part))
        self.assertEqual(numbers_of_sums(sums), numbers)

    def test_sums_of_cases_and_wants(self):
        chance = random.Random(2)
        for case in large_cases(3, 40):
            wants = large_wants(chance, case)
            for mask, signs in enumerate(signs_of(case.font, mask) for mask in range(1 << len(case.font))):
                self.assertEqual(bearings_of(case)[mask], case.bearing(signs))
                self.assertEqual(sums_of_wants(wants)[mask], wants.want(signs))
                self.assertEqual(excesses_of(case, wants)[mask], excess(case, wants, signs))
                shown = [count for kind, count in case.plates if case.font.shown(kind) == signs]
                self.assertEqual(exact_numbers(case)[mask], sum(shown))

    def test_worst_masks(self):
        self.assertEqual(worst_masks([0, 1, 2, 5, 2, 5, 4, 5]), (5, 1, 7))
        self.assertEqual(worst_masks([0, -1, -1, -1]), (0, 0, 0))


class PlansTest(PlatesTest):

    def test_plates_that_show_signs_already_are_passed_on(self):
        font = Font("abcdefghij")
        signs = font.signs
        case = Case(font, [(signs[at:at + 2], MOST) for at in range(9)] + [("j-", MOST)])
        for wants in [Wants(font, {sign: MOST for sign in signs}), Wants(font, {"a": MOST, "j": 2 * MOST})]:
            told, plan = answer(case, wants)
            self.assertEqual([told, is_plan(case, wants, plan)], ["plan", True])

    def test_signs_in_every_order(self):
        chance = random.Random(4)
        font = Font("01234567", [("0", "1"), ("2", "3"), ("4", "5")])
        for _ in range(60):
            kinds = chance.sample(all_kinds(font), 20)
            supplies = [(kind, font.shown(kind), chance.choice([1, 10, MOST, chance.randrange(MOST)])) for kind in kinds]
            case = Case(font, [(kind, max(1, count)) for kind, _, count in supplies])
            wants = large_wants(chance, case)
            if answer(case, wants)[0] == "plan":
                order = chance.sample(font.signs, 8)
                supplies = [(kind, font.shown(kind), case[kind]) for kind in chance.sample(case.kinds, 20)]
                plan = find_plan(supplies, {sign: wants[sign] for sign in order})
                self.assertIs(is_plan(case, wants, plan), True)

    def test_nothing_is_changed(self):
        supplies = [("01", ["0", "1"], 2)]
        counts = {"0": 1, "1": 1}
        self.assertEqual(find_plan(supplies, counts), {("01", "0"): 1, ("01", "1"): 1})
        self.assertEqual([supplies, counts], [[("01", ["0", "1"], 2)], {"0": 1, "1": 1}])


if __name__ == "__main__":
    unittest.main()
