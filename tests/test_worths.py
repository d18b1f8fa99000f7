"""The part of wants that is worth most, and price lists that show it: promises 4 and 40."""

import itertools
import random
import unittest

from hymnplates.cases import Case
from hymnplates.errors import InvalidWorths, OtherFont
from hymnplates.fonts import Font, all_kinds, all_sets
from hymnplates.wants import Wants
from hymnplates.worths import best, is_best
from searches import excess, large_cases, large_wants, plain_shortage, small_cases, small_wants, wanted_by, ways_by_counts
from support import CASE, FONT, MOST, OTHER, PlatesTest, nested, of, strange_values


def is_integer(value):
    return type(value) is int


def shows(case, wants, worths, worth, prices):
    """Whether a value is a price list that shows that no part is worth more."""
    if type(prices) is not dict or list(sorted(prices, key=repr)) != sorted(case.font.signs, key=repr):
        return False
    if not all(is_integer(price) and price >= 0 for price in prices.values()):
        return False
    bound = sum(count * max(prices[sign] for sign in case.font.shown(kind)) for kind, count in case.plates)
    for sign in case.font.signs:
        bound += wants[sign] * max(0, worths.get(sign, 0) - prices[sign])
    return worth == bound


def is_right(case, wants, worths, value):
    """Whether a tuple of a worth, a part and a price list is right, by the words of the document."""
    if type(value) is not tuple or len(value) != 3:
        return False
    worth, part, prices = value
    if not is_integer(worth) or type(part) is not Wants or part.font != case.font:
        return False
    if any(part[sign] > wants[sign] for sign in case.font.signs) or plain_shortage(case, part)[0] > 0:
        return False
    if worth != sum(part[sign] * worths.get(sign, 0) for sign in case.font.signs):
        return False
    return shows(case, wants, worths, worth, prices)


def some_worths(chance, font, choices):
    signs = chance.sample(font.signs, chance.randrange(len(font) + 1))
    return {sign: chance.choice(choices) for sign in signs}


class WorthsTest(PlatesTest):

    def check(self, case, wants, worths):
        """The best tuple is right and accepted; returns it."""
        told = best(case, wants, worths)
        self.assertTrue(is_right(case, wants, worths, told))
        self.assertIs(is_best(case, wants, worths, told), True)
        self.assertEqual(best(case, wants, worths), told)
        return told


class ExamplesTest(WorthsTest):

    def test_examples_of_the_document(self):
        case = Case(Font("0689", [("6", "9")]), [("69", 2), ("8-", 1), ("06", 1)])
        self.assertEqual(best(case, Wants.of(case.font, "8866"), {"8": 5, "6": 2})[0], 9)


class SearchTest(WorthsTest):
    """All parts of small wants."""

    def test_no_part_is_worth_more(self):
        chance = random.Random(51)
        for case in small_cases(52, 60):
            shown = ways_by_counts(case)
            for wants in chance.sample(list(small_wants(case.font, 4)), 12):
                worths = some_worths(chance, case.font, [0, 1, 1, 2, 3, 10 ** 30])
                each = [worths.get(sign, 0) for sign in case.font.signs]
                parts = itertools.product(*[range(count + 1) for count in wanted_by(wants)])
                most = max(sum(map(int.__mul__, counts, each)) for counts in parts if counts in shown)
                self.assertEqual(self.check(case, wants, worths)[0], most)

    def test_all_small_tuples(self):
        font = Font("01")
        for plates in [[], [("01", 1)], [("0-", 1), ("01", 1)], [("00", 2)]]:
            case = Case(font, plates)
            for row, worths in [("01", {"0": 1}), ("011", {"0": 1, "1": 2}), ("00", {}), ("0", {"0": 2, "1": 2}), ("", {})]:
                wants = Wants.of(font, row)
                accepted = 0
                for worth, zeros, ones, low, high in itertools.product(range(5), range(3), range(3), range(4), range(4)):
                    value = worth, Wants(font, {"0": zeros, "1": ones}), {"0": low, "1": high}
                    right = is_right(case, wants, worths, value)
                    self.assertIs(is_best(case, wants, worths, value), right)
                    accepted += right
                self.assertGreater(accepted, 0)


class LargeTest(WorthsTest):

    def test_large_counts_against_sums_over_all_sets(self):
        chance = random.Random(53)
        told = {True: 0, False: 0}
        for case in large_cases(54, 250):
            wants = large_wants(chance, case)
            worths = some_worths(chance, case.font, [0, 1, 7, MOST, MOST - 1, chance.randrange(MOST)])
            most = self.plain_most(case, wants, worths)
            worth, part, _ = self.check(case, wants, worths)
            self.assertEqual(worth, most)
            whole = plain_shortage(case, wants)[0] == 0
            told[whole] += 1
            if whole:
                self.assertEqual(worth, sum(wants[sign] * worths.get(sign, 0) for sign in wants.font.signs))
            self.assertTrue(part.is_within(wants))
        self.assertGreater(min(told.values()), 40)

    def plain_most(self, case, wants, worths):
        """The greatest worth, summed up from the signs that are worth so much or more, for each worth there is."""
        steps = sorted({0, *worths.values()})
        most = 0
        for less, more in zip(steps, steps[1:]):
            dear = Wants(case.font, {sign: wants[sign] for sign in worths if worths[sign] >= more})
            shown = dear.total - max(excess(case, dear, signs) for signs in all_sets(case.font))
            most += (more - less) * shown
        return most

    def test_all_signs_and_kinds(self):
        chance = random.Random(55)
        font = Font.digits()
        case = Case(font, [(kind, chance.randrange(1, MOST)) for kind in all_kinds(font)])
        for _ in range(5):
            wants = Wants(font, {sign: chance.randrange(20 * MOST) for sign in font.signs})
            worths = {sign: chance.choice([1, 2, 3, MOST, chance.randrange(MOST)]) for sign in font.signs}
            self.assertEqual(self.check(case, wants, worths)[0], self.plain_most(case, wants, worths))

    def test_wants_far_beyond_counts(self):
        wants = Wants(FONT, {"6": 10 ** 99, "8": 10 ** 99})
        worth, part, _ = self.check(CASE, wants, {"6": MOST, "8": 1})
        self.assertEqual([worth, part], [3 * MOST + 1, of("6668")])


class EdgesTest(WorthsTest):

    def test_wants_that_hang_wholly_in_part_and_not_at_all(self):
        for row, worths, worth in [("698", {"6": 1, "9": 2, "8": 3}, 6), ("8899", {"8": 5, "9": 1}, 7), ("888", {"8": 2}, 2),
                                   ("0000", {"0": 4}, 4), ("6690", {"6": 1, "9": 1, "0": 5}, 7)]:
            self.assertEqual(self.check(CASE, of(row), worths)[0], worth)
        self.assertEqual(self.check(Case(FONT), of("698"), {"6": 1, "9": 2})[:2], (0, of("")))
        self.assertEqual(self.check(Case(FONT, [("00", 1)]), of("698"), {"6": 1, "9": 2})[0], 0)

    def test_worths_of_nothing(self):
        for row in ["", "698", "888"]:
            for worths in [{}, {"6": 0}, {"0": 0, "6": 0, "8": 0, "9": 0}]:
                worth, _, prices = self.check(CASE, of(row), worths)
                self.assertEqual([worth, prices], [0, {"0": 0, "6": 0, "8": 0, "9": 0}])

    def test_worths_that_are_left_out_are_none(self):
        for worths in [{"8": 5}, {"8": 5, "6": 0}, {"9": 0, "8": 5, "0": 0}]:
            self.assertEqual(self.check(CASE, of("8866"), worths), best(CASE, of("8866"), {"8": 5}))

    def test_worths_of_signs_that_are_not_wanted(self):
        self.assertEqual(self.check(CASE, of("88"), {"6": 7, "8": 1})[0], 1)
        self.assertEqual(self.check(CASE, of(""), {"6": 7, "8": 1})[:2], (0, of("")))

    def test_greatest_worths(self):
        self.assertEqual(self.check(CASE, of("8666699"), {"6": MOST, "8": MOST, "9": MOST - 1})[0], 4 * MOST)
        case = Case(FONT, [("06", MOST)])
        wants = of("0") * MOST + of("6") * MOST
        self.assertEqual(self.check(case, wants, {"0": MOST, "6": MOST - 1})[0], MOST * MOST)

    def test_signs_that_are_worth_the_same(self):
        self.assertEqual(self.check(CASE, of("06699"), dict.fromkeys("0689", 3))[0], 9)

    def test_a_dear_sign_takes_the_plates_of_cheap_ones(self):
        case = Case(Font("012"), [("01", 2), ("12", 1)])
        wants = Wants.of(case.font, "00111222")
        self.assertEqual(self.check(case, wants, {"0": 1, "1": 5, "2": 2})[:2], (15, Wants.of(case.font, "111")))
        self.assertEqual(self.check(case, wants, {"0": 3, "1": 2, "2": 2})[0], 8)

    def test_the_order_of_keys_means_nothing(self):
        worths = {"8": 5, "6": 2, "9": 2}
        for order in itertools.permutations(worths):
            told = best(CASE, of("886699"), {sign: worths[sign] for sign in order})
            self.assertEqual([told, list(told[2])], [best(CASE, of("886699"), worths), ["0", "6", "8", "9"]])


class CheckerTest(WorthsTest):

    WORTHS = {"8": 5, "6": 2}

    def setUp(self):
        self.wants = of("8866")
        self.told = best(CASE, self.wants, self.WORTHS)

    def assert_accepted(self, value, accepted):
        with self.subTest(value=value):
            self.assertIs(is_best(CASE, self.wants, self.WORTHS, value), accepted)

    def test_one_part_changed(self):
        """Tuples beside the best one are accepted exactly if the document's words hold of them."""
        chance = random.Random(57)
        told = {True: 0, False: 0}
        for case in [*small_cases(58, 40), *large_cases(59, 40)]:
            wants = large_wants(chance, case) if case.plates else Wants.of(case.font, case.font.signs)
            wants = wants + Wants.of(case.font, chance.choice(case.font.signs))
            worths = some_worths(chance, case.font, [0, 1, 2, 3, MOST])
            for value in self.beside(case, best(case, wants, worths)):
                right = is_right(case, wants, worths, value)
                told[right] += 1
                self.assertIs(is_best(case, wants, worths, value), right)
        self.assertGreater(min(told.values()), 100)

    def beside(self, case, told):
        worth, part, prices = told
        font = case.font
        yield from [(worth + 1, part, prices), (worth - 1, part, prices), (-worth, part, prices), (0, part, prices)]
        for sign in font.signs:
            for step in [-1, 1]:
                counts = {one: part[one] for one in font.signs}
                counts[sign] = max(0, counts[sign] + step)
                yield worth, Wants(font, counts), prices
                yield worth, part, {**prices, sign: prices[sign] + step}
            for other in font.signs:
                yield worth, part, {**prices, sign: prices[other]}
        yield worth, part, dict(reversed(list(prices.items())))
        yield worth, part + part, prices
        yield worth, part, {sign: 0 for sign in font.signs}

    def test_any_other_value(self):
        for value in strange_values() + ["", (), [], {}, list(self.told), self.told[:2], self.told + (None,), (self.told,),
                                         ("best", *self.told), dict(enumerate(self.told))]:
            self.assert_accepted(value, False)
        self.assert_accepted(self.told, True)

    def test_other_worths(self):
        for worth in [True, None, "9", 9.0, [9], (9,), {9: 9}, nested(20), 8, 10, 10 ** 99, -9]:
            self.assert_accepted((worth, *self.told[1:]), False)
        self.assertIs(is_best(Case(FONT, [("88", 1)]), of("8"), {"8": 1}, (True, of("8"), {**self.told[2], "8": 1})), False)
        self.assertIs(is_best(CASE, of(""), {}, (False, of(""), dict.fromkeys("0689", 0))), False)
        self.assertIs(is_best(CASE, of(""), {}, (0, of(""), dict.fromkeys("0689", 0))), True)

    def test_other_parts(self):
        worth, part, prices = self.told
        self.assertEqual(part, of("866"))
        for other in [None, True, "866", part.counts, [part], (part,), CASE, FONT, nested(20), of("8"), of("8866"),
                      of("8669"),
                      of("8660"), of(""), Wants.of(OTHER, "866"), Wants.of(Font("0698", [("6", "9")]), "866")]:
            self.assert_accepted((worth, other, prices), False)
        # More is worth nothing, but is no part of the wants; less of what is worth nothing is a part.
        wants = of("88660")
        for row, accepted in [("866", True), ("8660", True), ("86600", False), ("8669", False)]:
            self.assertIs(is_best(CASE, wants, self.WORTHS, (worth, of(row), prices)), accepted)

    def test_other_price_lists(self):
        worth, part, prices = self.told
        for other in [None, True, [], (), {}, list(prices.items()), tuple(prices.items()), [prices], nested(20), "0000"]:
            self.assert_accepted((worth, part, other), False)
        for sign in prices:
            self.assert_accepted((worth, part, {one: prices[one] for one in prices if one != sign}), False)
            for price in [-1, True, False, None, str(prices[sign]), [prices[sign]], 1.0, 10 ** 99, nested(20)]:
                self.assert_accepted((worth, part, {**prices, sign: price}), False)
        for key in ["1", "", "06", "-", 0, None, ("0",), "6 "]:
            self.assert_accepted((worth, part, {**prices, key: 0}), False)

    def test_any_price_list_that_shows_it_is_accepted(self):
        case = Case(Font("01"), [("01", 1)])
        wants = Wants.of(case.font, "01")
        accepted = [prices for prices in itertools.product(range(5), repeat=2)
                    if is_best(case, wants, {"0": 3, "1": 2}, (3, Wants.of(case.font, "0"), dict(zip("01", prices))))]
        self.assertEqual(accepted, [(2, 2), (3, 2), (3, 3)])

    def test_every_part_that_is_worth_most_is_accepted(self):
        case = Case(Font("01"), [("01", 1)])
        for row in ["0", "1"]:
            value = (3, Wants.of(case.font, row), {"0": 3, "1": 3})
            self.assertIs(is_best(case, Wants.of(case.font, "01"), {"0": 3, "1": 3}, value), True)

    def test_nothing_that_is_passed_is_changed(self):
        worths = {"8": 5, "6": 2}
        value = (self.told[0], self.told[1], dict(self.told[2]))
        is_best(CASE, self.wants, worths, value)
        best(CASE, self.wants, worths)
        self.assertEqual([worths, value], [{"8": 5, "6": 2}, self.told])
        self.assertEqual([list(worths), self.wants], [["8", "6"], of("8866")])

    def test_what_is_returned_is_new(self):
        self.told[2].clear()
        self.told = best(CASE, self.wants, self.WORTHS)
        self.assert_accepted(self.told, True)


class ErrorsTest(WorthsTest):

    def test_any_other_value_is_no_worths(self):
        wrong = [{"0": -1}, {"0": MOST + 1}, {"0": True}, {"0": None}, {"0": "1"}, {"0": [1]}, {"0": 1.0}, {"1": 1}, {"": 1},
                 {"06": 1}, {"0-": 1}, {0: 1}, {None: 1}, {("0",): 1}, {"0": 1, "6": -1}, {"0": nested(20)}, [("0", 1)],
                 (("0", 1),), [], (), "", "0"]
        for value in wrong + [value for value in strange_values() if value != {"0": 1}]:
            with self.subTest(value=value):
                self.assert_value_error(InvalidWorths, value, best, CASE, of("888"), value)
                self.assert_value_error(InvalidWorths, value, is_best, CASE, of("888"), value, None)

    def test_other_fonts_come_first(self):
        for font in [OTHER, Font("01"), Font("0698", [("6", "9")])]:
            for worths in [{}, None]:
                self.assert_error(OtherFont, {}, best, CASE, Wants.none(font), worths)
                self.assert_error(OtherFont, {}, is_best, CASE, Wants.none(font), worths, None)

    def test_wants_need_not_hang(self):
        self.assertEqual(best(CASE, of("888"), {"8": 2})[0], 2)
        self.assertIs(is_best(CASE, of("888"), {"8": 2}, None), False)

    def test_arguments_by_name(self):
        told = best(worths={"8": 5, "6": 2}, wants=of("8866"), case=CASE)
        self.assertIs(is_best(value=told, worths={"8": 5, "6": 2}, wants=of("8866"), case=CASE), True)
        self.assertEqual([type(told), [type(one) for one in told]], [tuple, [int, Wants, dict]])


if __name__ == "__main__":
    unittest.main()
