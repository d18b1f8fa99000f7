"""Changes of a board: promises 4 and 44."""

import random
import unittest

from board_search import all_gets, is_right_change, plain_cost
from hymnplates.cases import Case
from hymnplates.changes import change, is_change
from hymnplates.errors import InvalidCosts, InvalidHung, InvalidRow
from hymnplates.fonts import Font, all_kinds
from papers import great_number, great_table, variants
from searches import FONTS, small_cases
from support import CASE, FONT, MOST, PlatesTest, nested, strange_values

SIXES = Case(Font("69", [("6", "9")]), [("66", 1)])


def some_hung(chance, font, hooks):
    """What hangs on so many hooks, kinds as they are kept."""
    hung = []
    for _ in range(hooks):
        kind = chance.choice(all_kinds(font))
        hung.append(chance.choice([None, (kind, chance.choice(font.shown(kind)))]))
    return tuple(hung)


def some_row(chance, font, hooks):
    return "".join(chance.choice(font.signs + "..") for _ in range(hooks))


class ChangesTest(PlatesTest):

    def check(self, case, hung, row, costs):
        told = change(case, hung, row, costs)
        self.assertTrue(is_right_change(case, hung, row, costs, told))
        self.assertIs(is_change(case, hung, row, costs, told), True)
        self.assertEqual(change(case, hung, row, costs), told)
        return told

    def test_the_examples_of_the_document(self):
        told = self.check(SIXES, (("69", "6"), None), "96", (1, 2, 4))
        self.assertEqual(told[:3], ("change", 5, (("hook", 0), ("case", "66"))))
        self.assertEqual(self.check(SIXES, (("69", "6"), None, None), "966", (1, 2, 4)), ("lack", "69"))

    def test_plates_that_stay_turn_move_do_both_and_are_fetched(self):
        hung = (("69", "6"), None)
        for row, cost, gets in [("6.", 0, (("hook", 0), None)), ("9.", 1, (("hook", 0), None)),
                                (".6", 2, (None, ("hook", 0))),
                                (".9", 3, (None, ("hook", 0))), ("66", 4, (("hook", 0), ("case", "66"))),
                                ("..", 0, (None, None))]:
            self.assertEqual(self.check(SIXES, hung, row, (1, 2, 4))[1:3], (cost, gets))
        self.assertEqual(self.check(SIXES, hung, ".9", (1, 2, 0))[1:3], (0, (None, ("case", "66"))))
        self.assertEqual(self.check(SIXES, (("69", "6"), ("69", "9")), "96", (9, 1, 4))[1:3],
                         (2, (("hook", 1), ("hook", 0))))
        self.assertEqual(self.check(SIXES, (("69", "6"), ("69", "9")), "96", (1, 1, 4))[1], 2)

    def test_one_hook_and_twenty(self):
        self.assertEqual(self.check(SIXES, (None,), "6", (1, 2, 4))[:3], ("change", 4, (("case", "66"),)))
        self.assertEqual(self.check(SIXES, (None,), ".", (1, 2, 4)), ("change", 0, (None,), ((None,), (None,), {"66": 0})))
        plates = Case(SIXES.font, [("66", 19)])
        self.assertEqual(self.check(plates, (None,) * 20, "6" * 20, (1, 2, 4)), ("lack", "6"))
        self.assertEqual(self.check(plates, (("69", "6"),) + (None,) * 19, "9" * 20, (1, 2, 4))[1], 1 + 19 * 4)
        hung = tuple(("69", sign) for sign in "69" * 10)
        self.assertEqual(self.check(Case(SIXES.font), hung, "96" * 10, (MOST, 1, MOST))[1], 20)
        self.assertEqual(self.check(Case(SIXES.font), hung, "96" * 10, (MOST, MOST, 0))[1], 20 * MOST)

    def test_kinds_on_hooks_with_their_sides_in_both_orders(self):
        for hung in [[("86", "6"), ("-8", "8")], (("68", "6"), ("8-", "8")), (("86", "6"), ("8-", "8"))]:
            told = change(CASE, hung, "88", (1, 2, 40))
            self.assertEqual(told[1:3], (1, (("hook", 0), ("hook", 1))))
            self.assertIs(is_change(CASE, hung, "88", (1, 2, 40), told), True)
            self.assertEqual(change(CASE, hung, "98", (1, 2, 3))[1:3], (1, (("hook", 0), ("hook", 1))))
            self.assertEqual(change(CASE, hung, "06", (1, 2, 3)), change(CASE, [("68", "6"), ("8-", "8")], "06", (1, 2, 3)))

    def test_small_boards_against_all_gets(self):
        chance = random.Random(49)
        seen = {"change": 0, "lack": 0}
        for case in small_cases(150, 240, 3):
            hooks = chance.randrange(1, 5)
            hung = some_hung(chance, case.font, hooks)
            row = some_row(chance, case.font, hooks)
            costs = tuple(chance.choice([0, 1, 2, 3, 5]) for _ in range(3))
            told = self.check(case, hung, row, costs)
            costs_of_gets = [plain_cost(hung, row, costs, gets) for gets in all_gets(case, hung, row)]
            self.assertEqual(told[1] if told[0] == "change" else None, min(costs_of_gets, default=None))
            seen[told[0]] += 1
        self.assertGreater(min(seen.values()), 40)

    def test_large_boards(self):
        chance = random.Random(50)
        seen = {"change": 0, "lack": 0}
        for at in range(60):
            font = [*FONTS, Font.digits(), Font("0123456789")][at % 10]
            most = chance.choice([3, 30])
            case = Case(font, [(kind, great_number(chance) or 2) for kind in great_table(chance, font, most)])
            hung = some_hung(chance, font, 20)
            told = self.check(case, hung, some_row(chance, font, 20), tuple(great_number(chance) for _ in range(3)))
            seen[told[0]] += 1
        self.assertGreater(min(seen.values()), 4)


class AcceptedChangesTest(PlatesTest):

    def check_variants(self, case, hung, row, costs):
        told = change(case, hung, row, costs)
        seen = {True: 0, False: 0}
        for value in variants(told):
            right = is_right_change(case, hung, row, costs, value)
            seen[right] += 1
            with self.subTest(value=value):
                self.assertIs(is_change(case, hung, row, costs, value), right)
        return seen

    def test_changed_parts(self):
        font = FONT
        case = Case(font, [("06", 1), ("88", 2)])
        hung = (("69", "6"), None, ("8-", "8"), ("08", "0"))
        seen = [self.check_variants(case, hung, row, costs) for row in ["6980", "8..8", "9.0.", "....", "9999", "0860"]
                for costs in [(1, 2, 4), (0, 0, 0), (3, 1, 1)]]
        self.assertTrue(all(one[False] for one in seen))
        self.assertGreater(sum(one[True] for one in seen), 100)

    def test_other_gets(self):
        hung = (("69", "6"), ("69", "9"))
        told = change(SIXES, hung, "66", (1, 1, 1))
        self.assertEqual(told[1], 1)
        accepted = [gets for gets in all_gets(SIXES, hung, "66")
                    if is_change(SIXES, hung, "66", (1, 1, 1), (*told[:2], gets, told[3]))]
        self.assertEqual(accepted,
                         [(("hook", 0), ("hook", 1)), (("hook", 0), ("case", "66"))])
        wrong = [(("hook", 0), ("hook", 0)), (("hook", 0), ("hook", True)), (("hook", False), ("hook", 1)),
                 (("hook", 0), ("hook", 2)),
                 (("hook", 0), ("hook", -1)), (("hook", 0), ["hook", 1]), [("hook", 0), ("hook", 1)],
                 (("hook", 0), ("case", "69")),
                 (("hook", 0), ("case", 1)), (("hook", 0), ("hook", "1")), (("hook", 0), None), (("hook", 0),),
                 ("hook", 0), None,
                 (("hook", 0), ("hook", 1), None), (("hook", 0), ("hook", 1, 1)), (("hook", 0), ("hooks", 1)), (0, 1)]
        for gets in wrong:
            self.assertIs(is_change(SIXES, hung, "66", (1, 1, 1), (*told[:2], gets, told[3])), False)

    def test_gets_name_kinds_as_they_are_kept(self):
        case = Case(FONT, [("68", 1)])
        told = change(case, (None,), "8", (1, 2, 4))
        self.assertEqual(told[2], (("case", "68"),))
        self.assertIs(is_change(case, (None,), "8", (1, 2, 4), (told[0], 4, (("case", "86"),), told[3])), False)

    def test_papers_with_numbers_of_any_sign(self):
        hung = (("69", "6"), ("69", "9"))
        told = ("change", 0, (("hook", 0), None))
        for paper, accepted in [(((0, None), (0, 0), {"66": 0}), True), (((1, None), (1, 0), {"66": 0}), True),
                                (((1, None), (1, 0), {"66": -1}), False), (((-1, None), (0, 0), {"66": 0}), False),
                                (((-1, None), (-1, 0), {"66": 0}), False), (((5, None), (5, 4), {"66": 0}), False),
                                (((5, None), (5, 0), {"66": 1}), False), (((0, None), (0, 0), {}), False),
                                (((0, None), (0, 0), {"66": 0, "69": 0}), False), (((0, 0), (0, 0), {"66": 0}), False),
                                (((0, None), (0, None), {"66": 0}), False), (((False, None), (0, 0), {"66": 0}), False)]:
            self.assertIs(is_change(SIXES, hung, "6.", (1, 1, 1), (*told, paper)), accepted)

    def test_the_paper_counts_all_plates_of_a_kind(self):
        case = Case(FONT, [("88", 2)])
        told = ("change", 0, (("hook", 0), ("case", "88")))
        hung = (("88", "8"), None)
        for paper, accepted in [(((0, 0), (0, None), {"88": 0}), True), (((1, 1), (1, None), {"88": 1}), False),
                                (((2, 1), (1, None), {"88": 1}), False), (((1, 2), (1, None), {"88": 1}), False)]:
            self.assertIs(is_change(case, hung, "88", (0, 0, 0), (*told, paper)), accepted)

    def test_lacks(self):
        for signs, accepted in [("6", True), ("69", True), ("96", False), ("9", False), ("", False), ("66", False),
                                (None, False),
                                (["6"], False), (("6",), False), (6, False), (".", False), ("6.", False)]:
            value = ("lack", signs)
            self.assertIs(is_change(SIXES, (None, None, None), "66.", (1, 2, 4), value), accepted)
            self.assertIs(is_change(SIXES, [("69", "9"), None, None], "66.", (1, 2, 4), value), False)

    def test_any_other_value(self):
        told = change(SIXES, (None,), "6", (1, 2, 4))
        for value in strange_values() + [told[:3], (told,), [told], (*told, 0), told[1:], list(told), ("lack",), nested(20)]:
            self.assertIs(is_change(SIXES, (None,), "6", (1, 2, 4), value), False)
        self.assertIs(is_change(SIXES, (None,), "6", (1, 2, 4), told), True)


class ChangesErrorsTest(PlatesTest):

    def test_any_other_value_does_not_hang(self):
        entries = [True, False, 0, 1, "", "69", ("69",), ("69", "6", 1), ["69", "6"], (("69", "6"),), ("69", "0"),
                   ("69", "8"),
                   ("6", "6"), ("--", "6"), ("6-", "9."), ("6-", ""), ("69", "69"), ("69", None), (None, "6"), (None, None),
                   ("69", ["6"]), (["69"], "6"), {"69": "6"}, ("1-", "1"), ("8-", "0"), ("8-", "-"), [None], (),
                   nested(20), CASE]
        wrong = [[entry] for entry in entries] + [(None, entry) for entry in entries]
        wrong += [[], (), [None] * 21, (None,) * 21, [("69", "6")] * 21, {0: None}, {}, "", ".", None]
        known = [[None], (None,)]
        for value in wrong + [value for value in strange_values() if value not in known]:
            with self.subTest(value=value):
                for row, costs in [(".", (1, 2, 4)), ("x", (1, 2, 4)), (None, None)]:
                    self.assert_value_error(InvalidHung, value, change, CASE, value, row, costs)
                    self.assert_value_error(InvalidHung, value, is_change, CASE, value, row, costs, None)

    def test_any_other_value_is_no_row(self):
        wrong = ["", "6", "666", ".", "...", "6x", "x6", "6-", "6 ", "66\n", "6\n", "AB", ["6", "6"], ("6", "6"), "1.",
                 "6" * 4000]
        for value in wrong + strange_values():
            with self.subTest(value=value):
                for costs in [(1, 2, 4), None, (1, 2)]:
                    self.assert_value_error(InvalidRow, value, change, CASE, [None, ("69", "6")], value, costs)
                    self.assert_value_error(InvalidRow, value, is_change, CASE, [None, ("69", "6")], value, costs, None)

    def test_any_other_value_is_no_costs(self):
        parts = [-1, MOST + 1, 10 ** 60, True, False, None, "1", 1.0, [1], (1,), {}, nested(20)]
        wrong = [costs for part in parts for costs in [(part, 2, 4), (1, part, 4), (1, 2, part)]]
        for value in wrong + strange_values() + [(), (1,), (1, 2), (1, 2, 4, 8), [1, 2, 4], {1: 2}, ((1, 2, 4),),
                                                 "124", (0, 0, 0)[:2]]:
            with self.subTest(value=value):
                for row in ["..", "00"]:
                    self.assert_value_error(InvalidCosts, value, change, Case(FONT), [None, None], row, value)
                    self.assert_value_error(InvalidCosts, value, is_change, Case(FONT), [None, None], row, value, None)
        for costs in [(0, 0, 0), (MOST, MOST, MOST)]:
            self.assertEqual(change(Case(FONT), [None], "0", costs), ("lack", "0"))

    def test_arguments_by_name_and_nothing_is_changed(self):
        hung = [("96", "6"), None]
        told = change(costs=(1, 2, 4), row="96", hung=hung, case=SIXES)
        self.assertEqual(hung, [("96", "6"), None])
        self.assertIs(is_change(value=told, costs=(1, 2, 4), row="96", hung=hung, case=SIXES), True)
        hung[0] = None
        told[3][2].clear()
        self.assertEqual(change(SIXES, [("69", "6"), None], "96", (1, 2, 4))[3][2].keys(), {"66"})


if __name__ == "__main__":
    unittest.main()
