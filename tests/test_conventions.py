"""Promises 2 and 4 over all functions: equal calls return equal results, which are new, and change nothing."""

import copy
import inspect
import random
import unittest

from hymnplates import (books, carriages, changes, desk, hanging, likeness, prices, rows, streets, trades, uses, vestries,
                        worths)
from hymnplates.cases import Case
from hymnplates.chests import Chest, CountedChest, GuardedChest, GuardedCountedChest
from hymnplates.errors import OtherFont
from hymnplates.fonts import Font, all_sets
from hymnplates.wants import Wants
from support import CASE, FONT, OTHER, PlatesTest, of

PLATES = [("8-", 1), ("60", 1), ("96", 2)]


def new_case():
    return Case(Font("0689", (("9", "6"),)), list(PLATES))


def new_wants(row):
    return Wants.of(Font("0689", [("6", "9")]), row)


def calls():
    """All calls, with new arguments: (function, arguments)."""
    case, wants, others = new_case(), new_wants("698"), new_wants("06")
    plan = {("69", "6"): 1, ("8-", "8"): 1, ("69", "9"): 1}
    nothing = dict.fromkeys("9860", 0)
    bearings = {signs: case.bearing(signs) for signs in all_sets(FONT) if signs}
    return [
        (hanging.answer, (case, wants)), (hanging.answer, (case, new_wants("88"))), (hanging.hangs, (case, wants)),
        (hanging.is_plan, (case, wants, plan)), (hanging.is_lack, (case, wants, "8")), (hanging.shortage, (case, wants)),
        (hanging.worst_sets, (case, wants)), (hanging.lots, (case, wants)), (hanging.copies, (case, wants)),
        (hanging.copies, (case, wants, others)), (hanging.copies, (case, new_wants(""))), (hanging.ladder, (case, wants)),
        (hanging.ladder, (case, wants, others)), (uses.use_range, (case, wants, "96", "6")),
        (uses.plan_with, (case, wants, "69", "6", 1)), (uses.spare, (case, wants, "06")), (likeness.exact, (case,)),
        (likeness.alike, (case, case)), (likeness.alike, (case, Case(FONT))), (likeness.exact_of, (FONT, bearings)),
        (rows.count_rows, (case, 3)), (rows.row_at, (case, 3, 7)), (rows.row_index, (case, "698")),
        (worths.best, (case, new_wants("888666"), {"8": 2, "6": 3})),
        (worths.is_best, (case, new_wants(""), {"8": 2}, (0, new_wants(""), nothing))),
        *calls_of_prices(case, nothing), *calls_of_boards_and_churches(case, nothing), *calls_of_numbers(case),
    ]


def calls_of_prices(case, nothing):
    kinds = {"88": 7, "8-": 4, "69": 2}
    return [
        (prices.sale, (case, new_wants("6"), {"8-": 1, "69": 3, "06": 4})),
        (prices.is_sale, (case, new_wants(""), {}, (0, {}, nothing))),
        (prices.purchase, (case, new_wants("888"), kinds)), (prices.purchase, (case, new_wants("000"), kinds)),
        (prices.is_purchase, (case, new_wants("6"), kinds, ("bought", 0, {}, nothing))),
        (trades.trade, (case, new_wants("88"), new_wants("66699"), kinds, {"8-": 3, "69": 1})),
        (trades.trade, (case, new_wants("88"), new_wants("00"), kinds)),
        (trades.is_trade, (case, new_wants("8"), new_wants("6"), kinds, None, ("trade", 0, {}, {}, (nothing, nothing)))),
    ]


def calls_of_boards_and_churches(case, nothing):
    hung = [("96", "6"), None, ("8-", "8")]
    paper = ((0, None, 0), (0, None, 0), {"69": 0, "06": 0, "8-": 0})
    churches = [(case, new_wants("88")), (case, new_wants("6"))]
    ways = [(1, 0, 5), (0, 1, 2)]
    return [
        (changes.change, (case, hung, "898", (1, 2, 4))), (changes.change, (case, hung, "000", (1, 2, 4))),
        (changes.is_change, (case, hung, "6.8", (1, 2, 4), ("change", 0, (("hook", 0), None, ("hook", 2)), paper))),
        (carriages.carriage, (churches, ways)), (carriages.carriage, (churches, [])),
        (carriages.is_carriage, (churches, ways, ("carriage", 5, {(1, 0, "8-"): 1}, [nothing, nothing]))),
    ]


def calls_of_numbers(case):
    font = Font("0689", [("9", "6")])
    return [
        (streets.written, (font, 77)), (streets.number_of, (font, "6908")), (streets.street, (font, 3, 70)),
        (streets.longest_street, (case, 1)), (streets.count_with, (font, 70, "96", 2)),
        (streets.nth_with, (font, 70, "96", 2, 9)), (books.worst_share, (font, 70, 3, "96")), (books.is_safe, (case, 2, 1)),
        (books.choice, (case, 9, 4)), (books.choice, (case, 1, 4)), (books.is_choice, (case, 9, 3, ("8", [2, 8, 9]))),
        (books.jokers, (case, 9, 4)), (books.largest_book, (case, 2)), (books.most_numbers, (case, 9)),
        (desk.table, (case,)),
        (desk_lines, (case,)), (vestry_edits, (case,)),
    ]


def desk_lines(case):
    """What a new desk tells."""
    return desk.Desk(case).run("put 88 1", "try undo", "table", "text", "spare 96 8", "undo", "jokers 9 9")


def vestry_edits(case):
    """What is seen of a new vestry after some edits."""
    vestry = vestries.Vestry(case, 2, (1, 2, 4))
    vestry.show("69", [("case", "96"), ("case", "96")])
    vestry.apply(("put", "88", 2), ("show", "9.", (("hook", 1), None)))
    return [vestry.history(), vestry.case, vestry.hung, vestry.work, vestry.all_plates, vestry.cheapest("86")]


def called(function, arguments):
    """The result, a generator's values in a list."""
    told = function(*arguments)
    return list(told) if inspect.isgenerator(told) else told


def told_of(value):
    """What can be seen of a value, also of its order."""
    if isinstance(value, (list, tuple)):
        return [type(value).__name__, *[told_of(one) for one in value]]
    if isinstance(value, dict):
        return {repr(key): told_of(one) for key, one in value.items()}
    if isinstance(value, Case):
        return value.text
    if isinstance(value, Wants):
        return [value.font.signs, value.font.turns, list(value.counts.items())]
    if isinstance(value, Font):
        return [value.signs, value.turns]
    return value


def spoil(value):
    """Changes all lists and dicts in a value."""
    if isinstance(value, (list, tuple)):
        for one in value:
            spoil(one)
    if isinstance(value, list):
        value.append("spoilt")
    if isinstance(value, dict):
        value.clear()
        value["spoilt"] = 1


class EqualCallsTest(PlatesTest):

    def test_equal_calls_return_equal_results_whatever_was_asked_between_them(self):
        first = [told_of(called(*call)) for call in calls()]
        kept = calls()
        chance = random.Random(61)
        for _ in range(3):
            for at in chance.sample(range(len(kept)), len(kept)):
                told = called(*kept[at])
                self.assertEqual(told_of(told), first[at])
                spoil(told)
        self.assertEqual([told_of(called(*call)) for call in calls()], first)

    def test_no_call_changes_what_it_is_passed(self):
        for function, arguments in calls():
            before = copy.deepcopy(told_of(arguments))
            called(function, arguments)
            self.assertEqual(told_of(arguments), before)
            self.assertEqual(repr(told_of(arguments)), repr(before))

    def test_all_fonts_must_be_the_same(self):
        for function, arguments in calls():
            names = list(inspect.signature(function).parameters)
            for name, value in zip(names, arguments):
                other = {Case: Case(OTHER), Wants: Wants.none(OTHER)}.get(type(value))
                if other is not None and name != "case":
                    changed = [other if value is one else one for one in arguments]
                    if function is not likeness.alike or changed[0] != other:
                        self.assert_error(OtherFont, {}, called, function, changed)

    def test_a_chest_answers_as_its_present_case_does(self):
        for make in [Chest, GuardedChest, CountedChest, GuardedCountedChest]:
            chest = make(Case(FONT))
            chest.apply(("put", "69", 3), ("put", "8-", 1), ("take", "96", 1), ("put", "88", 5), ("put", "06", 1))
            chest.undo(2)
            chest.put("60", 2)
            chest.explore(lambda inner: inner.undo(4))
            chest.take("06", 1)
            self.assertEqual(chest.case, CASE)
            for function, arguments in calls():
                if arguments[0] == CASE:
                    told = called(function, (chest.case, *arguments[1:]))
                    self.assertEqual(told_of(told), told_of(called(function, arguments)))


class ArgumentsTest(PlatesTest):

    def test_changing_later_what_was_passed_changes_nothing(self):
        plates, counts = [("69", 2), ("8-", 1)], {"6": 1, "8": 1}
        case, wants = Case(FONT, plates), Wants(FONT, counts)
        chest = GuardedCountedChest(case, wants)
        told = hanging.answer(case, wants)
        plates.clear()
        counts.clear()
        counts["0"] = 9
        self.assertEqual([hanging.answer(case, wants), chest.wants, chest.case.size], [told, (of("68"),), 3])

    def test_values_that_were_returned_may_be_passed_back(self):
        _, plan = hanging.answer(CASE, of("698"))
        self.assertIs(hanging.is_plan(CASE, of("698"), plan), True)
        for use in list(plan):
            self.assertIs(hanging.is_plan(CASE, of("698"), {**plan, use: plan[use] * 10 ** 200}), False)
            self.assertIs(hanging.is_plan(CASE, of("698"), {**plan, use: [plan]}), False)
        huge = Wants(FONT, (of("6") * 10 ** 30 * 10 ** 30 * 10 ** 30 * 10 ** 30).counts)
        self.assertEqual(huge["6"], 10 ** 120)
        self.assertEqual(hanging.shortage(CASE, huge), (10 ** 120 - 3, "6", "069"))
        self.assertEqual(hanging.ladder(CASE, huge, huge), [(0, "6")])
        self.assertEqual(worths.best(CASE, huge, {"6": 10 ** 30})[0], 3 * 10 ** 30)


if __name__ == "__main__":
    unittest.main()
