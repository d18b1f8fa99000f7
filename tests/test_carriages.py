"""Carriages between churches: promises 4 and 45."""

import itertools
import random
import unittest

from hymnplates.carriages import carriage, is_carriage
from hymnplates.cases import Case
from hymnplates.chests import Chest
from hymnplates.errors import InvalidChurches, InvalidWays, OtherFont
from hymnplates.fonts import Font, all_kinds
from hymnplates.wants import Wants
from papers import (dearest, great_number, great_table, hang, is_full_list, is_tuple, is_whole, is_written, joined, variants,
                    wanted)
from searches import FONTS, large_cases, large_wants, small_cases
from support import CASE, FONT, MOST, OTHER, PlatesTest, nested, of, strange_values

BINARY = Font("01")


def plain_distances(many, ways):
    """From pairs of churches to distances, by all ways without a church twice."""
    prices = {(one, other): price for one, other, price in ways}
    far = {}
    for one, other in itertools.product(range(many), repeat=2):
        between = [church for church in range(many) if church not in (one, other)]
        for stops in range(len(between) + 1):
            for chosen in itertools.permutations(between, stops):
                way = [one, *chosen, other] if one != other else [one]
                legs = list(zip(way, way[1:]))
                if all(leg in prices for leg in legs):
                    length = sum(prices[leg] for leg in legs)
                    far[one, other] = min(far.get((one, other), length), length)
    return far


def is_right_load(churches, ways, carried):
    """Whether a value is a carriage that suffices."""
    if type(carried) is not dict:
        return False
    pairs = [(one, other) for one, other, _ in ways]
    font = churches[0][0].font
    plates = [dict(case.plates) for case, _ in churches]
    for key, number in carried.items():
        if not is_tuple(key, 3) or not is_whole(key[0]) or not is_whole(key[1]) or type(key[2]) is not str:
            return False
        one, other, kind = key
        if (one, other) not in pairs or kind not in all_kinds(font) or not is_whole(number, 1):
            return False
        plates[one] = joined(plates[one], {kind: -number})
        plates[other] = joined(plates[other], {kind: number})
    if any(count < 0 for here in plates for count in here.values()):
        return False
    return all(hang(font, here, wants) for here, (_, wants) in zip(plates, churches))


def is_right(churches, ways, value):
    """Whether a value is a cheapest carriage, or sets that show that none suffices, by the words of the document."""
    font = churches[0][0].font
    far = plain_distances(len(churches), ways)
    if is_tuple(value, 2, "lack"):
        return are_right_sets(churches, far, value[1])
    if not is_tuple(value, 4, "carriage") or not is_whole(value[1]) or not is_right_load(churches, ways, value[2]):
        return False
    _, cost, carried, lists = value
    if type(lists) is not list or len(lists) != len(churches) or not all(is_full_list(font, one) for one in lists):
        return False
    prices = {(one, other): price for one, other, price in ways}
    least = sum(wanted(wants, one) for (_, wants), one in zip(churches, lists))
    for at, (case, _) in enumerate(churches):
        for kind, count in case.plates:
            values = [dearest(font, lists[to], kind) - far[at, to] for to in range(len(churches)) if (at, to) in far]
            least -= count * max(values)
    return cost == sum(number * prices[key[:2]] for key, number in carried.items()) == least


def are_right_sets(churches, far, sets):
    if type(sets) is not list or len(sets) != len(churches) or not all(is_written(churches[0][0].font, one) for one in sets):
        return False
    plates = 0
    for at, (case, _) in enumerate(churches):
        for kind, count in case.plates:
            if any((at, to) in far and set(case.font.shown(kind)) & set(sets[to]) for to in range(len(churches))):
                plates += count
    return sum(wants[sign] for (_, wants), signs in zip(churches, sets) for sign in signs) > plates


def least_cost(churches, ways):
    """The least cost of all ways to spread the plates over the churches, None if none suffices."""
    far = plain_distances(len(churches), ways)
    plates = [(at, kind) for at, (case, _) in enumerate(churches) for kind, count in case.plates for _ in range(count)]
    costs = []
    for places in itertools.product(range(len(churches)), repeat=len(plates)):
        if all((at, place) in far for (at, _), place in zip(plates, places)):
            counts = [{} for _ in churches]
            for (_, kind), place in zip(plates, places):
                counts[place][kind] = counts[place].get(kind, 0) + 1
            if all(hang(case.font, count, wants) for count, (case, wants) in zip(counts, churches)):
                costs.append(sum(far[at, place] for (at, _), place in zip(plates, places)))
    return min(costs, default=None)


def some_ways(chance, many, choices, share):
    pairs = [pair for pair in itertools.permutations(range(many), 2) if chance.random() < share]
    return [(*pair, chance.choice(choices)) for pair in chance.sample(pairs, len(pairs))]


class CarriagesTest(PlatesTest):

    def check(self, churches, ways):
        told = carriage(churches, ways)
        self.assertTrue(is_right(churches, ways, told))
        self.assertIs(is_carriage(churches, ways, told), True)
        self.assertEqual(carriage(churches, ways), told)
        return told

    def test_the_examples_of_the_document(self):
        churches = [(Case(BINARY, [("01", 2)]), Wants.none(BINARY)), (Case(BINARY), Wants.of(BINARY, "1"))]
        self.assertEqual(self.check(churches, [(0, 1, 5)])[:3], ("carriage", 5, {(0, 1, "01"): 1}))
        self.assertEqual(self.check(churches, [(1, 0, 5)]), ("lack", ["", "1"]))
        ways = [(0, 0, 5)]
        self.assert_value_error(InvalidWays, ways, carriage, churches, ways)

    def test_one_church(self):
        nothing = dict.fromkeys("0689", 0)
        self.assertEqual(self.check([(CASE, of("698"))], []), ("carriage", 0, {}, [nothing]))
        self.assertEqual(self.check([(CASE, of("688"))], ()), ("lack", ["8"]))
        self.assertEqual(self.check(((Case(FONT), of("")),), []), ("carriage", 0, {}, [nothing]))

    def test_six_churches_in_a_row(self):
        churches = [(Case(BINARY, [("01", MOST)]), Wants.none(BINARY))]
        churches += [(Case(BINARY), Wants.of(BINARY, "1")) for _ in range(5)]
        ways = [(at, at + 1, 10 ** at) for at in range(5)]
        told = self.check(churches, ways)
        self.assertEqual(told[:3], ("carriage", 12345, {(at, at + 1, "01"): 5 - at for at in range(5)}))
        self.assertEqual(self.check(churches, ways[:4]), ("lack", ["", "", "", "", "", "1"]))
        self.assertEqual(self.check(churches, ways + [(0, 5, 7), (5, 4, 3)])[1], 1 + 11 + 111 + 10 + 7)

    def test_two_ways_between_two_churches_and_ways_of_no_price(self):
        churches = [(Case(BINARY, [("0-", 1)]), Wants.of(BINARY, "1")), (Case(BINARY, [("1-", 1)]), Wants.of(BINARY, "0"))]
        self.assertEqual(self.check(churches, [(0, 1, 3), (1, 0, 4)])[:3],
                         ("carriage", 7, {(0, 1, "0-"): 1, (1, 0, "1-"): 1}))
        self.assertEqual(self.check(churches, [(0, 1, 0), (1, 0, 0)])[1], 0)
        self.assertEqual(self.check(churches, [(0, 1, MOST), (1, 0, MOST)])[1], 2 * MOST)
        self.assertEqual(self.check(churches, [(0, 1, 3)])[0], "lack")
        self.assertEqual(self.check(churches, [])[0], "lack")

    def test_small_churches_against_all_carriages(self):
        chance = random.Random(51)
        seen = {"carriage": 0, "lack": 0}
        for font in FONTS[:6] * 20:
            many = chance.randrange(1, 4)
            churches = []
            for _ in range(many):
                kinds = [chance.choice(all_kinds(font)) for _ in range(chance.randrange(3))]
                row = "".join(chance.choice(font.signs) for _ in range(chance.randrange(3)))
                churches.append((Case(font, [(kind, kinds.count(kind)) for kind in set(kinds)]), Wants.of(font, row)))
            ways = some_ways(chance, many, [0, 1, 2, 3, 7], 0.8)
            told = self.check(churches, ways)
            self.assertEqual(told[1] if told[0] == "carriage" else None, least_cost(churches, ways))
            seen[told[0]] += 1
        self.assertGreater(min(seen.values()), 25)

    def test_large_churches(self):
        chance = random.Random(52)
        seen = {"carriage": 0, "lack": 0}
        for at, font in enumerate([*FONTS, Font("012345", [("2", "5")])] * 4):
            many = chance.randrange(2, 7)
            cases = list(large_cases(at, many, [font]))
            # Of some wants only a part, so that the plates suffice more often.
            full = [large_wants(chance, case) for case in cases]
            share = chance.choice([1, 9])
            wants = [Wants(font, {sign: one[sign] // share for sign in font.signs}) for one in full]
            ways = some_ways(chance, many, [great_number(chance) for _ in range(9)], chance.choice([0.3, 0.5, 1]))
            told = self.check(list(zip(cases, chance.sample(wants, many))), ways)
            seen[told[0]] += 1
        self.assertGreater(min(seen.values()), 5)

    def test_six_churches_with_thirty_kinds_of_ten_signs(self):
        chance = random.Random(53)
        for font in [Font.digits(), Font("9876543210")]:
            kinds = [great_table(chance, font, 30) for _ in range(6)]
            cases = [Case(font, [(kind, chance.randrange(1, MOST)) for kind in one]) for one in kinds]
            wants = [large_wants(chance, case) for case in cases]
            ways = [(*pair, chance.randrange(MOST)) for pair in itertools.permutations(range(6), 2)]
            churches = list(zip(cases, wants[1:] + wants[:1]))
            told = carriage(churches, ways)
            self.assertIs(is_carriage(churches, ways, told), True)
            self.assertEqual(told[0], "carriage")
            self.assertGreater(told[1], MOST)


class AcceptedCarriagesTest(PlatesTest):

    def check_variants(self, churches, ways):
        told = carriage(churches, ways)
        seen = {True: 0, False: 0}
        for value in variants(told):
            right = is_right(churches, ways, value)
            seen[right] += 1
            with self.subTest(value=value):
                self.assertIs(is_carriage(churches, ways, value), right)
        return seen

    def test_changed_parts(self):
        cases = [Case(BINARY, [("01", 2)]), Case(BINARY, [("0-", 1)]), Case(BINARY)]
        seen = []
        for rows in [["", "1", "0"], ["0", "1", "1"], ["", "", "00"], ["1", "1", "1"], ["1", "", ""]]:
            churches = [(case, Wants.of(BINARY, row)) for case, row in zip(cases, rows)]
            for ways in [[(0, 1, 2), (1, 2, 1)], [(0, 1, 0), (1, 0, 0), (0, 2, 3)], []]:
                seen.append(self.check_variants(churches, ways))
        self.assertTrue(all(one[False] for one in seen))
        self.assertGreater(sum(one[True] for one in seen), 100)

    def test_changed_parts_of_one_church(self):
        for row in ["698", "88"]:
            self.check_variants([(CASE, of(row))], [])

    def test_plates_that_are_carried_around(self):
        churches = [(Case(BINARY), Wants.none(BINARY)), (Case(BINARY), Wants.none(BINARY))]
        lists = [{"0": 0, "1": 0}] * 2
        ways = [(0, 1, 0), (1, 0, 0)]
        for carried, accepted in [({}, True), ({(0, 1, "01"): 5, (1, 0, "01"): 5}, True),
                                  ({(0, 1, "01"): 5, (1, 0, "01"): 4}, False),
                                  ({(0, 1, "01"): 5, (1, 0, "00"): 5}, False), ({(0, 1, "10"): 5, (1, 0, "10"): 5}, False),
                                  ({(0, 1, "01"): 10 ** 99, (1, 0, "01"): 10 ** 99}, True), ({(0, 1, "01"): 5}, False),
                                  ({(False, True, "01"): 5, (True, False, "01"): 5}, False), ({(0, 1, "01"): 0}, False)]:
            self.assertIs(is_carriage(churches, ways, ("carriage", 0, carried, lists)), accepted)

    def test_each_kind_must_be_there_even_if_others_can_show_its_signs(self):
        churches = [(Case(BINARY, [("0-", 5), ("1-", 5)]), Wants.of(BINARY, "01")), (Case(BINARY), Wants.none(BINARY))]
        lists = [{"0": 0, "1": 0}] * 2
        for carried, accepted in [({(0, 1, "0-"): 4}, True), ({(0, 1, "0-"): 5}, False), ({(0, 1, "01"): 1}, False),
                                  ({(0, 1, "00"): 1}, False), ({(1, 0, "0-"): 1}, False)]:
            self.assertIs(is_carriage(churches, [(0, 1, 0), (1, 0, 0)], ("carriage", 0, carried, lists)), accepted)

    def test_values_of_plates_far_away(self):
        churches = [(Case(BINARY, [("01", 2)]), Wants.none(BINARY)), (Case(BINARY), Wants.of(BINARY, "1"))]
        told = ("carriage", 5, {(0, 1, "01"): 1})
        for ways, prices, accepted in [([(0, 1, 5)], 5, True), ([(0, 1, 5)], 4, False), ([(0, 1, 5)], 6, False),
                                       ([(0, 1, 6)], 5, False)]:
            self.assertIs(is_carriage(churches, ways, (*told, [{"0": 0, "1": 0}, {"0": 0, "1": prices}])), accepted)
        self.assertIs(is_carriage(churches, [(0, 1, 5)], (*told, [{"0": 1, "1": 0}, {"0": 0, "1": 5}])), False)

    def test_sets(self):
        churches = [(Case(BINARY, [("01", 2)]), Wants.of(BINARY, "0")), (Case(BINARY, [("0-", 1)]), Wants.of(BINARY, "11"))]
        for sets, accepted in [(["0", "1"], True), (["", "1"], False), (["01", "01"], False), (["0", ""], False),
                               (("0", "1"), False),
                               (["0"], False), (["0", "1", ""], False), (["0", ["1"]], False), ("01", False),
                               (["10", "1"], False),
                               (["01", "1"], True), (["0", "11"], False), (["0", None], False), ({0: "0", 1: "1"}, False)]:
            self.assertIs(is_carriage(churches, [(0, 1, 5)], ("lack", sets)), accepted)
        self.assertIs(is_carriage(churches, [], ("lack", ["", "1"])), True)

    def test_any_other_value(self):
        churches = [(Case(BINARY, [("01", 2)]), Wants.none(BINARY)), (Case(BINARY), Wants.of(BINARY, "1"))]
        told = carriage(churches, [(0, 1, 5)])
        for value in strange_values() + [told[:3], (told,), [told], (*told, 0), told[1:], list(told), ("lack",), nested(20)]:
            self.assertIs(is_carriage(churches, [(0, 1, 5)], value), False)
        self.assertIs(is_carriage(churches, [(0, 1, 5)], told), True)


class CarriagesErrorsTest(PlatesTest):

    def test_any_other_value_is_no_churches(self):
        church = (CASE, of("6"))
        entries = [None, True, 0, "", CASE, of("6"), [CASE, of("6")], (of("6"), CASE), (CASE,), (CASE, of("6"), 0),
                   (CASE, "6"),
                   (Chest(CASE), of("6")), (CASE, {"6": 1}), (None, None), (CASE, CASE), (church,), {0: church},
                   nested(20), FONT]
        wrong = [[entry] for entry in entries] + [[church, entry] for entry in entries]
        other = (Case(OTHER), Wants.none(OTHER))
        wrong += [[], (), [church] * 7, (church,) * 7, {0: church}, church, [church, other, None], "", None]
        for value in wrong + strange_values():
            with self.subTest(value=value):
                for ways in [[], None, [(0, 0, 1)]]:
                    self.assert_value_error(InvalidChurches, value, carriage, value, ways)
                    self.assert_value_error(InvalidChurches, value, is_carriage, value, ways, None)

    def test_other_fonts_come_before_ways(self):
        church = (CASE, of("6"))
        for font in [OTHER, Font("01"), Font("0698", [("6", "9")])]:
            for churches in [[(CASE, Wants.none(font))], [(Case(font), of("6"))], [church, (Case(font), Wants.none(font))],
                             [(Case(font), Wants.none(font)), church], [church] * 5 + [(CASE, Wants.none(font))]]:
                for ways in [[], None, [(0, 0, 1)]]:
                    self.assert_error(OtherFont, {}, carriage, churches, ways)
                    self.assert_error(OtherFont, {}, is_carriage, churches, ways, None)

    def test_any_other_value_is_no_ways(self):
        entries = [(0, 0, 5), (1, 1, 0), (0, 2, 5), (2, 0, 5), (-1, 0, 5), (0, -1, 5), (0, 1), (0, 1, 5, 5), [0, 1, 5],
                   (0, 1, -1),
                   (0, 1, MOST + 1), (0, 1, True), (False, True, 5), (0, True, 5), (0, 1, None), (0, 1, "5"),
                   ("0", 1, 5), (0, None, 5),
                   (0, 1, 1.0), (0.0, 1, 5), (0, 1, [5]), ((0, 1), 5), None, 5, "015", (), {0: 1}, nested(20),
                   (10 ** 60, 0, 5)]
        wrong = [[entry] for entry in entries] + [[(1, 0, 5), entry] for entry in entries]
        wrong += [[(0, 1, 5), (0, 1, 5)], [(0, 1, 5), (1, 0, 2), (0, 1, 6)], ((0, 1, 5), (0, 1, 5)), {(0, 1): 5}, {},
                  (0, 1, 5), None, ""]
        church = (CASE, of("888"))
        for value in wrong + strange_values():
            with self.subTest(value=value):
                self.assert_value_error(InvalidWays, value, carriage, [church, church], value)
                self.assert_value_error(InvalidWays, value, is_carriage, (church, church), value, None)
        for ways in [[], (), [(0, 1, 0), (1, 0, MOST)], ((1, 0, 3),)]:
            self.assertEqual(carriage([church, church], ways), carriage((church, church), list(ways)))

    def test_arguments_by_name_and_nothing_is_changed(self):
        churches = [(CASE, of("88")), (CASE, of("6"))]
        ways = [(1, 0, 5), (0, 1, 2)]
        told = carriage(ways=ways, churches=churches)
        self.assertIs(is_carriage(value=told, ways=ways, churches=churches), True)
        self.assertEqual([churches, ways], [[(CASE, of("88")), (CASE, of("6"))], [(1, 0, 5), (0, 1, 2)]])
        self.assertEqual(told[:3], ("carriage", 5, {(1, 0, "8-"): 1}))
        told[2].clear()
        told[3].clear()
        ways.clear()
        self.assertEqual(carriage(churches, [(1, 0, 5), (0, 1, 2)])[:3], ("carriage", 5, {(1, 0, "8-"): 1}))


if __name__ == "__main__":
    unittest.main()
