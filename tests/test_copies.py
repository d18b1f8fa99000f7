"""Copies and the ladder: promise 32."""

import random
import unittest

from hymnplates.cases import Case
from hymnplates.errors import Lacking, OtherFont
from hymnplates.fonts import Font, all_sets
from hymnplates.hanging import copies, ladder
from hymnplates.wants import Wants
from searches import (excess, large_cases, large_wants, plain_shortage, small_cases, small_wants, wanted_by,
                      ways_by_counts)
from support import CASE, FONT, MOST, OTHER, PlatesTest, of


class ExamplesTest(PlatesTest):

    def test_examples_of_the_document(self):
        case = Case(Font("0689", [("6", "9")]), [("69", 2), ("8-", 1), ("06", 1)])
        told = [copies(case, Wants.of(case.font, "68")), ladder(case, Wants.of(case.font, "68"))]
        self.assertEqual(told, [(1, "8"), [(0, ""), (2, "8"), (4, "68")]])
        self.assertEqual(ladder(case, Wants.of(case.font, "8"), Wants.of(case.font, "699")), [(0, ""), (2, "8")])
        self.assert_error(Lacking, {"lack": "8"}, copies, case, Wants.of(case.font, "6"), Wants.of(case.font, "88"))


class SearchTest(PlatesTest):

    def pairs(self, seed, many, plates=3):
        """Small cases with wants and other wants, which are often none."""
        chance = random.Random(seed)
        for case in small_cases(seed, many, plates):
            choices = list(small_wants(case.font, 3))
            for _ in range(25):
                yield case, chance.choice(choices), chance.choice([Wants.none(case.font), chance.choice(choices)])

    def test_copies_against_all_ways(self):
        told = {"number": 0, "none": 0, "lack": 0}
        for case, wants, others in self.pairs(11, 60):
            shown = ways_by_counts(case)
            if wanted_by(others) not in shown:
                told["lack"] += 1
                lack = plain_shortage(case, others)[1]
                self.assert_error(Lacking, {"lack": lack}, copies, case, wants, others)
            elif wants.total == 0:
                told["none"] += 1
                self.assertIsNone(copies(case, wants, others))
            else:
                told["number"] += 1
                most = 0
                while wanted_by(wants * (most + 1) + others) in shown:
                    most += 1
                self.check(case, wants, others, most)
        self.assertGreater(min(told.values()), 40)

    def check(self, case, wants, others, most):
        number, signs = copies(case, wants, others)
        self.assertEqual(number, most)
        self.assertGreater(excess(case, wants * (most + 1) + others, signs), 0)
        self.assertIn(signs, all_sets(case.font))

    def test_ladders_against_each_number(self):
        longest = 0
        for case, wants, others in self.pairs(12, 60, 4):
            steps = ladder(case, wants, others)
            longest = max(longest, len(steps))
            told = []
            for m in range(steps[-1][0] + 8):
                least = plain_shortage(case, wants * m + others)[1]
                if not told or told[-1][1] != least:
                    told.append((m, least))
            self.assertEqual(steps, told)
            if wants.total == 0:
                self.assertEqual(steps, [(0, plain_shortage(case, others)[1])])
        self.assertGreater(longest, 2)


class LargeTest(PlatesTest):

    def test_copies_against_sums_over_all_sets(self):
        chance = random.Random(13)
        told = {True: 0, False: 0}
        for case in large_cases(14, 250):
            counts = {sign: chance.choice([0, 1, 7, chance.randrange(10 ** 12)]) for sign in case.font.signs}
            wants = Wants(case.font, counts)
            others = large_wants(chance, case)
            worst = plain_shortage(case, others)
            told[worst[0] == 0] += 1
            if worst[0]:
                self.assert_error(Lacking, {"lack": worst[1]}, copies, case, wants, others)
                others = None
            rest = Wants.none(case.font) if others is None else others
            if wants:
                number, signs = copies(case, wants, others)
                self.assertEqual(number, self.most(case, wants, rest))
                self.assertGreater(excess(case, self.times(wants, number + 1) + rest, signs), 0)
                self.assertEqual(plain_shortage(case, self.times(wants, number) + rest)[0], 0)
        self.assertGreater(min(told.values()), 40)

    def times(self, wants, number):
        """The wants so often; the number may be greater than those that wants are multiplied by."""
        return Wants(wants.font, {sign: wants[sign] * number for sign in wants.font.signs})

    def most(self, case, wants, others):
        sets = [signs for signs in all_sets(case.font) if wants.want(signs)]
        return min(-excess(case, others, signs) // wants.want(signs) for signs in sets)

    def test_ladders_beside_their_steps(self):
        chance = random.Random(15)
        longest = 0
        for case in large_cases(16, 120):
            wants = Wants(case.font, {sign: chance.randrange(1, 10 ** 9) for sign in case.font.signs})
            others = large_wants(chance, case)
            steps = ladder(case, wants, others)
            longest = max(longest, len(steps))
            self.assertEqual(steps[0], (0, plain_shortage(case, others)[1]))
            self.assertEqual([m for m, _ in steps], sorted({m for m, _ in steps}))
            for (_, before), (m, signs) in zip(steps, steps[1:]):
                self.assertEqual(plain_shortage(case, wants * (m - 1) + others)[1], before)
                self.assertEqual(plain_shortage(case, wants * m + others)[1], signs)
                self.assertTrue(set(before) < set(signs))
            last = steps[-1]
            for m in [last[0] + 1, 2 * last[0] + 10 ** 6, 10 ** 30]:
                self.assertEqual(plain_shortage(case, wants * m + others)[1], last[1])
        self.assertGreater(longest, 3)

    def test_every_set_of_a_chain(self):
        font = Font("01234567")
        case = Case(font, [(sign + "-", 10 ** (3 * at + 1)) for at, sign in enumerate(font.signs)])
        steps = [(0, "")] + [(10 ** (3 * at + 1) + 1, font.signs[:at + 1]) for at in range(8)]
        self.assertEqual(ladder(case, Wants.of(font, font.signs)), steps)
        self.assertEqual(copies(case, Wants.of(font, font.signs)), (10, "0"))


class EdgesTest(PlatesTest):

    def test_nothing_is_wanted(self):
        self.assertIsNone(copies(CASE, of("")))
        self.assertIsNone(copies(CASE, of(""), of("")))
        self.assertIsNone(copies(CASE, of(""), of("698")))
        self.assertEqual([ladder(CASE, of("")), ladder(CASE, of(""), of("88"))], [[(0, "")], [(0, "8")]])

    def test_lacking_comes_before_none(self):
        self.assert_error(Lacking, {"lack": "8"}, copies, CASE, of(""), of("88"))
        self.assert_error(Lacking, {"lack": "08"}, copies, CASE, of("9"), of("8800066"))

    def test_a_case_without_plates(self):
        case = Case(FONT)
        self.assertEqual([copies(case, of("6")), copies(case, of("66"), of(""))], [(0, "6"), (0, "6")])
        self.assertEqual(ladder(case, of("69")), [(0, ""), (1, "69")])
        self.assertEqual(ladder(case, of("69"), of("0")), [(0, "0"), (1, "069")])
        self.assert_error(Lacking, {"lack": "0"}, copies, case, of("6"), of("0"))

    def test_others_that_do_not_hang_have_a_ladder(self):
        self.assertEqual(ladder(CASE, of("6"), of("88")), [(0, "8"), (4, "68")])
        self.assertEqual(ladder(CASE, of("8"), of("88")), [(0, "8")])

    def test_wants_that_do_not_hang_once(self):
        self.assertEqual([copies(CASE, of("88")), copies(CASE, of("8"), of("8"))], [(0, "8"), (0, "8")])

    def test_no_others_are_none(self):
        for row in ["6", "8", "69", "0689"]:
            self.assertEqual(copies(CASE, of(row), None), copies(CASE, of(row), of("")))
            self.assertEqual(copies(CASE, of(row)), copies(CASE, of(row), others=Wants.none(FONT)))
            self.assertEqual(ladder(CASE, of(row)), ladder(CASE, of(row), Wants.none(FONT)))

    def test_bounds_of_counts(self):
        case = Case(FONT, [("8-", MOST), ("88", MOST)])
        self.assertEqual(copies(case, of("8")), (2 * MOST, "8"))
        self.assertEqual(copies(case, of("8"), of("8") * MOST), (MOST, "8"))
        self.assertEqual(copies(case, of("888")), (2 * MOST // 3, "8"))
        self.assertEqual(ladder(case, of("8")), [(0, ""), (2 * MOST + 1, "8")])
        self.assertEqual(copies(case, of("8") * MOST * MOST), (0, "8"))

    def test_other_fonts(self):
        for action in [copies, ladder]:
            self.assert_error(OtherFont, {}, action, CASE, Wants.of(OTHER, "0"))
            self.assert_error(OtherFont, {}, action, CASE, of("0"), Wants.of(OTHER, "0"))
            self.assert_error(OtherFont, {}, action, CASE, Wants.of(OTHER, "0"), of("88"))
            self.assert_error(OtherFont, {}, action, CASE, of(""), Wants.of(OTHER, "88"))

    def test_arguments_by_name(self):
        self.assertEqual(copies(others=of("6"), wants=of("68"), case=CASE), (1, "8"))
        self.assertEqual(ladder(others=of("6"), wants=of("8"), case=CASE), [(0, ""), (2, "8")])

    def test_what_is_returned_is_new(self):
        ladder(CASE, of("68")).clear()
        self.assertEqual(ladder(CASE, of("68")), [(0, ""), (2, "8"), (4, "68")])
        self.assertEqual([type(copies(CASE, of("6"))), type(ladder(CASE, of("6"))[0])], [tuple, tuple])


if __name__ == "__main__":
    unittest.main()
