"""Vestries: boards, shows and work, with a history and trials: promise 46, and what 21 to 23 say of them."""

import random
import unittest

from board_search import all_gets, first_wrong, plain_cost
from hymnplates.cases import Case
from hymnplates.changes import change, is_change
from hymnplates.chests import Chest
from hymnplates.errors import (InvalidCosts, InvalidEdit, InvalidGets, InvalidKind, InvalidNumber, InvalidRow,
                               OutOfRange, TooFew, TooMany)
from hymnplates.fonts import Font
from hymnplates.vestries import Vestry
from support import CASE, FONT, MOST, OTHER, PlatesTest, nested, no_numbers, strange_values

SIXES = Font("69", [("6", "9")])


def vestry_of(plates, hooks=2, costs=(1, 2, 4), font=FONT):
    return Vestry(Case(font, plates), hooks, costs)


def seen(vestry):
    """All that can be seen of a vestry."""
    return [vestry.case.text, vestry.hung, vestry.row, vestry.work, vestry.all_plates, vestry.history(), vestry.depth]


class ShowsTest(PlatesTest):

    def test_the_example_of_the_document(self):
        vestry = vestry_of([("66", 2)], font=SIXES)
        self.assertIsNone(vestry.show("69", [("case", "66"), ("case", "66")]))
        self.assertEqual(vestry.cheapest("96")[:3], ("change", 2, (("hook", 0), ("hook", 1))))
        vestry.show(".9", [None, ("hook", 0)])
        self.assertEqual(seen(vestry)[1:5], [(None, ("66", "9")), ".9", 11, {"66": 2}])
        self.assert_error(InvalidGets, {"index": 0}, vestry.show, "6.", [("hook", 0), None])

    def test_a_new_vestry(self):
        for hooks in [1, 2, 20]:
            vestry = Vestry(CASE, hooks, (0, 0, 0))
            self.assertEqual(seen(vestry), [CASE.text, (None,) * hooks, "." * hooks, 0, dict(CASE.plates), [], 0])
            self.assertEqual(list(vestry.all_plates), list(CASE.kinds))

    def test_plates_that_stay_turn_move_and_go_back(self):
        vestry = vestry_of([("69", 1), ("68", 1), ("8-", 1)], 3)
        work = 0
        for row, gets, cost, hung, plates in [
                ("6.8", [("case", "96"), None, ("case", "-8")], 8, (("69", "6"), None, ("8-", "8")), {"68": 1}),
                ("6.8", [("hook", 0), None, ("hook", 2)], 0, (("69", "6"), None, ("8-", "8")), {"68": 1}),
                ("9.8", [("hook", 0), None, ("hook", 2)], 1, (("69", "9"), None, ("8-", "8")), {"68": 1}),
                ("89.", [("hook", 2), ("hook", 0), None], 4, (("8-", "8"), ("69", "9"), None), {"68": 1}),
                ("68.", [("hook", 1), ("case", "86"), None], 7, (("69", "6"), ("68", "8"), None), {"8-": 1}),
                ("...", (None, None, None), 0, (None, None, None), {"68": 1, "69": 1, "8-": 1})]:
            vestry.show(row, gets)
            work += cost
            self.assertEqual([vestry.row, vestry.hung, dict(vestry.case.plates), vestry.work], [row, hung, plates, work])
            self.assertEqual(list(vestry.all_plates.items()), [("68", 1), ("69", 1), ("8-", 1)])

    def test_all_plates_are_ascending_with_those_on_hooks(self):
        vestry = vestry_of([("8-", 1), ("00", 1), ("69", 2)])
        vestry.show("06", [("case", "00"), ("case", "69")])
        self.assertEqual(list(vestry.all_plates.items()), [("00", 1), ("69", 2), ("8-", 1)])
        self.assertEqual(vestry.case.plates, (("69", 1), ("8-", 1)))

    def test_edits_of_the_case(self):
        vestry = vestry_of([("69", 2)])
        vestry.show("6.", [("case", "69"), None])
        vestry.put("-8", 3)
        vestry.paint("8-", "88", 2)
        vestry.take("88", 1)
        self.assert_value_error(TooFew, "69", vestry.take, "96", 2)
        self.assert_value_error(TooFew, "69", vestry.paint, "96", "00", 2)
        self.assertEqual([vestry.case.plates, vestry.all_plates],
                         [(("69", 1), ("88", 1), ("8-", 1)), {"69": 2, "88": 1, "8-": 1}])
        self.assertEqual(vestry.history(), [("show", "6.", (("case", "69"), None)), ("put", "8-", 3),
                                            ("paint", "8-", "88", 2),
                                            ("take", "88", 1)])

    def test_a_case_that_gets_too_full(self):
        vestry = vestry_of([("69", 2), ("8-", 1), ("00", 1)], 3)
        vestry.show("68.", [("case", "69"), ("case", "8-"), None])
        vestry.put("69", MOST - 1)
        vestry.put("8-", MOST)
        self.assertEqual(vestry.all_plates, {"00": 1, "69": MOST + 1, "8-": MOST + 1})
        before = seen(vestry)
        # The first kind in order counts, not the first hook.
        for row, gets, kind in [("...", [None] * 3, "69"), ("8..", [("hook", 1), None, None], "69"),
                                ("6..", [("hook", 0), None, None], "8-"),
                                ("0..", [("case", "00"), None, None], "69")]:
            self.assert_value_error(TooMany, kind, vestry.show, row, gets)
            self.assert_error(InvalidEdit, {"index": 0}, vestry.apply, ("show", row, gets))
            self.assertEqual(seen(vestry), before)
        # What goes in and what goes out counts together.
        vestry.show("98.", [("case", "69"), ("case", "8-"), None])
        self.assertEqual([vestry.case["69"], vestry.case["8-"], vestry.work], [MOST, MOST, 16])
        self.assert_value_error(TooMany, "69", vestry.put, "69", 1)

    def test_rows_and_gets_may_be_tuples_and_are_copied(self):
        vestry = vestry_of([("69", 2)])
        gets = [("case", "96"), None]
        vestry.show("6.", gets)
        gets[0] = None
        self.assertEqual(vestry.history(), [("show", "6.", (("case", "69"), None))])
        vestry.history().clear()
        vestry.all_plates.clear()
        vestry.show("6.", (("hook", 0), None))
        self.assertEqual([len(vestry.history()), vestry.all_plates], [2, {"69": 2}])

    def test_cheapest(self):
        vestry = vestry_of([("69", 2), ("88", 1)], 3, (5, 3, 7))
        vestry.show("6.8", [("case", "69"), None, ("case", "88")])
        for row in ["...", "9.8", "868", "698", ".69", "000", "888"]:
            told = vestry.cheapest(row)
            self.assertEqual(told, change(vestry.case, vestry.hung, row, (5, 3, 7)))
            self.assertIs(is_change(vestry.case, vestry.hung, row, (5, 3, 7), told), True)
        vestry.show("9.8", vestry.cheapest("9.8")[2])
        self.assertEqual(vestry.work, 14 + 5)
        for row in ["", "6", "x..", None, ["6", ".", "8"]]:
            self.assert_value_error(InvalidRow, row, vestry.cheapest, row)

    def test_equality(self):
        one, other = vestry_of([("69", 2)]), vestry_of([("96", 2)])
        self.assertTrue(one == other)
        one.show("6.", [("case", "69"), None])
        self.assertFalse(one == other)
        other.show("6.", [("case", "69"), None])
        self.assertTrue(one == other and not one != other)
        other.show("6.", [("hook", 0), None])
        self.assertTrue(one == other)
        other.show("9.", [("hook", 0), None])
        self.assertFalse(one == other)
        other.show("6.", [("hook", 0), None])
        self.assertEqual([one.hung, one.case], [other.hung, other.case])
        self.assertFalse(one == other)
        self.assertFalse(vestry_of([("69", 2)]) == vestry_of([("69", 2)], costs=(1, 2, 5)))
        self.assertFalse(vestry_of([("69", 2)]) == vestry_of([("69", 2)], 3))
        self.assertFalse(vestry_of([("69", 2)]) == vestry_of([("69", 3)]))
        self.assertFalse(vestry_of([], font=FONT) == vestry_of([], font=OTHER))
        for value in [None, 0, CASE, Chest(CASE), (CASE, (None,) * 2, 0), "vestry"]:
            self.assertFalse(Vestry(CASE, 2, (1, 2, 4)) == value)
            self.assertFalse(value == Vestry(CASE, 2, (1, 2, 4)))


class VestryErrorsTest(PlatesTest):

    def test_hooks(self):
        for value in no_numbers(1, 20):
            for costs in [(1, 2, 4), None]:
                self.assert_value_error(InvalidNumber, value, Vestry, CASE, value, costs)

    def test_costs(self):
        parts = [-1, MOST + 1, 10 ** 60, True, None, "1", 1.0, [1], (1,)]
        wrong = [costs for part in parts for costs in [(part, 2, 4), (1, part, 4), (1, 2, part)]]
        for value in wrong + strange_values() + [(), (1, 2), (1, 2, 4, 8), [1, 2, 4], {1: 2}]:
            self.assert_value_error(InvalidCosts, value, Vestry, CASE, 20, value)
        self.assertEqual(Vestry(costs=(0, MOST, 1), hooks=1, case=CASE).row, ".")

    def test_rows(self):
        vestry = vestry_of([("69", 2)])
        for row in ["", "6", "666", "6x", "6-", "66 ", ["6", "."], ("6", "."), "6\n", "..."] + strange_values():
            for gets in [[None, None], None, 7]:
                self.assert_value_error(InvalidRow, row, vestry.show, row, gets)
                self.assert_error(InvalidEdit, {"index": 0}, vestry.apply, ("show", row, gets))
        self.assertEqual(seen(vestry), seen(vestry_of([("69", 2)])))

    def test_gets_that_are_no_list_of_this_length(self):
        vestry = vestry_of([("69", 2)])
        wrong = [[], (), [None], [("case", "69")], [("case", "69"), None, None], (None,) * 3, "6.", {0: None, 1: None},
                 {}, None]
        for gets in wrong + [value for value in strange_values() if type(value) not in (list, tuple) or len(value) != 2]:
            self.assert_error(InvalidGets, {"index": -1}, vestry.show, "6.", gets)

    def test_wrong_gets(self):
        vestry = vestry_of([("69", 2), ("8-", 1), ("86", 1)], 4)
        vestry.show("6.8.", [("case", "69"), None, ("case", "8-"), None])
        wrong = [("hook", 1), ("hook", 3), ("hook", 4), ("hook", -1), ("hook", True), ("hook", False), ("hook", None),
                 ("hook", "0"),
                 ("hook", 0, 0), ("hook",), ["hook", 0], ("case", 0), ("case", "8-"), ("case", "88"), ("case", "--"),
                 ("case", "6"),
                 ("case", None), ("case", ["69"]), ["case", "69"], ("case", "69", 1), ("Hook", 0), ("68", "case"),
                 ("hook", "69"), ("Case", "69"), ("", "69"), (0, "hook"),
                 (None, None), ("69", "6"), "hook", "69", 0, True, [], (), {}, {"hook": 0}, nested(20), ("hook", 10 ** 60),
                 ("hook", 2), ("case", 2)]
        for value in wrong + strange_values():
            with self.subTest(value=value):
                gets = [value, None, None, ("case", "69")]
                self.assert_error(InvalidGets, {"index": 0}, vestry.show, "6..9", gets)
                gets = [("hook", 0), None, ("hook", 2), value]
                self.assert_error(InvalidGets, {"index": 3}, vestry.show, "6.89", gets)
        for value in [("hook", 0), ("case", "69"), 0, False, "", (), "."]:
            self.assert_error(InvalidGets, {"index": 1}, vestry.show, "6.89",
                              [("hook", 0), value, ("hook", 2), ("case", "69")])
        vestry.show("6.89", [("hook", 0), None, ("hook", 2), ("case", "69")])

    def test_plates_that_an_earlier_hook_gets(self):
        vestry = vestry_of([("69", 1), ("66", 2)], 4)
        vestry.show("6...", [("case", "69"), None, None, None])
        for gets, index in [([("hook", 0), ("hook", 0), None, None], 1),
                            ([("case", "66"), ("case", "66"), ("case", "66"), ("hook", 0)], 2),
                            ([("case", "66"), ("hook", 0), ("case", "66"), ("hook", 0)], 3),
                            ([("hook", 1), ("hook", 0), None, 5], 0),
                            ([("hook", 0), ("case", "69"), ("case", "69"), ("case", "66")], 1)]:
            row = "".join("." if get is None else "6" for get in gets)
            self.assert_error(InvalidGets, {"index": index}, vestry.show, row, gets)
        vestry.show("666.", [("hook", 0), ("case", "66"), ("case", "66"), None])

    def test_errors_of_edits(self):
        vestry = vestry_of([("69", 2)])
        self.assert_value_error(InvalidKind, "--", vestry.put, "--", 0)
        self.assert_value_error(InvalidKind, None, vestry.paint, "69", None, 0)
        self.assert_value_error(InvalidNumber, 0, vestry.take, "69", 0)
        self.assert_value_error(TooFew, "69", vestry.take, "96", 3)
        self.assert_value_error(TooMany, "69", vestry.put, "96", MOST - 1)
        self.assertEqual(seen(vestry), seen(vestry_of([("69", 2)])))

    def test_a_board_of_twenty_hooks(self):
        vestry = Vestry(CASE, 20, (1, 2, 4))
        self.assertEqual(vestry.cheapest("." * 20)[:3], ("change", 0, (None,) * 20))


class HistoryTest(PlatesTest):

    def test_undoing_and_redoing_shows(self):
        vestry = vestry_of([("69", 2)])
        states = [seen(vestry)]
        for step in [("put", "8-", 1), ("show", "68", [("case", "69"), ("case", "8-")]),
                     ("show", "86", [("hook", 1), ("hook", 0)]),
                     ("take", "69", 1), ("show", "..", [None, None])]:
            getattr(vestry, step[0])(*step[1:])
            states.append(seen(vestry))
        self.assertEqual([state[3] for state in states], [0, 0, 8, 12, 12, 12])
        vestry.undo(4)
        self.assertEqual(seen(vestry), states[1])
        vestry.redo(2)
        self.assertEqual(seen(vestry), states[3])
        vestry.undo()
        self.assertEqual(seen(vestry), states[2])
        vestry.redo(3)
        self.assertEqual(seen(vestry), states[5])
        for value in no_numbers(1, 5):
            self.assert_value_error(OutOfRange, value, vestry.undo, value)
        for value in no_numbers(1, 0):
            self.assert_value_error(OutOfRange, value, vestry.redo, value)
        vestry.undo(5)
        vestry.put("88", 1)
        self.assert_value_error(OutOfRange, 1, vestry.redo)

    def test_apply(self):
        vestry = vestry_of([("69", 2)])
        show = ("show", "6.", [("case", "96"), None])
        self.assertIsNone(vestry.apply(show, ("put", "-8", 1), ("show", "86", (("case", "-8"), ("hook", 0)))))
        self.assertEqual(vestry.history(), [("show", "6.", (("case", "69"), None)), ("put", "8-", 1),
                                            ("show", "86", (("case", "8-"), ("hook", 0)))])
        self.assertEqual([vestry.row, vestry.work], ["86", 10])
        before = seen(vestry)
        for edits, index in [((("take", "69", 1), ("show", "6.", [("case", "69"), None])), 1), ((show, ("show", "8.")), 1),
                             ((show, ("show", "8.", [("hook", 0), None])), 1),
                             ((("show", "66", [("case", "69"), ("hook", 1)]), 5), 1),
                             ((["show", "..", [None, None]],), 0), ((("show", "..", [None, None], 1),), 0),
                             ((("undo", 1),), 0),
                             ((("hide", "..", [None, None]),), 0), ((("cheapest", ".."),), 0), (((),), 0), ((("show",),), 0),
                             ((("show", "..", [None]),), 0), ((("show", "...", [None, None]),), 0),
                             (((["show"], 1, 2),), 0)]:
            self.assert_error(InvalidEdit, {"index": index}, vestry.apply, *edits)
            self.assertEqual(seen(vestry), before)
        for value in strange_values():
            self.assert_error(InvalidEdit, {"index": 1}, vestry.apply, ("put", "88", 1), value)
        vestry.undo()
        vestry.apply()
        vestry.redo()
        self.assertEqual(seen(vestry), before)

    def test_the_forms_of_edits(self):
        vestry = vestry_of([("69", 2)])
        edits = [("take", "96", 1), ("put", "-8", 2), ("paint", "69", "88", 1), ("show", "..", [None, None])]
        vestry.apply(*edits)
        self.assertEqual(vestry.history(), [("take", "69", 1), ("put", "8-", 2), ("paint", "69", "88", 1),
                                            ("show", "..", (None, None))])
        for edit in edits:
            for wrong in [edit[:-1], edit + (1,), edit[:1], list(edit), (edit[0].upper(), *edit[1:]), (edit,)]:
                self.assert_error(InvalidEdit, {"index": 0}, vestry.apply, wrong)

    def test_a_chest_knows_no_shows(self):
        self.assert_error(InvalidEdit, {"index": 0}, Chest(CASE).apply, ("show", ".", [None]))

    def test_trials(self):
        vestry = vestry_of([("69", 2)])
        vestry.show("6.", [("case", "69"), None])
        vestry.put("88", 1)
        vestry.undo()
        before = seen(vestry)

        def action(inner):
            self.assertIs(inner, vestry)
            inner.show("99", [("hook", 0), ("case", "69")])
            inner.undo(2)
            inner.show(".6", [None, ("case", "69")])
            return [inner.depth, inner.work, inner.explore(lambda deeper: [deeper.undo(), deeper.depth, deeper.row])]

        self.assertEqual(vestry.explore(action), [1, 4, [None, 2, ".."]])
        self.assertEqual(seen(vestry), before)
        vestry.redo()
        vestry.undo()

        def failing(inner):
            action(inner)
            raise KeyError("out")

        self.assertRaises(KeyError, vestry.attempt, failing)
        self.assertRaises(KeyError, vestry.explore, failing)
        self.assertEqual(seen(vestry), before)
        vestry.redo()
        vestry.undo()
        self.assertEqual(vestry.attempt(action), [1, 4, [None, 2, ".."]])
        self.assertEqual([vestry.row, vestry.work, vestry.depth], [".6", 4, 0])


class Model:
    """A vestry as a list of its states."""

    def __init__(self, case, hooks, costs):
        self.font, self.costs = case.font, costs
        self.states = [(dict(case.plates), (None,) * hooks, 0)]
        self.edits = []
        self.at = 0

    def copied(self):
        other = Model.__new__(Model)
        other.font, other.costs, other.at = self.font, self.costs, self.at
        other.states, other.edits = list(self.states), list(self.edits)
        return other

    def seen(self, depth):
        plates, hung, work = self.states[self.at]
        everything = dict(plates)
        for plate in hung:
            if plate:
                everything[plate[0]] = everything.get(plate[0], 0) + 1
        row = "".join(plate[1] if plate else "." for plate in hung)
        return [Case(self.font, list(plates.items())).text, hung, row, work, everything, self.edits[:self.at], depth]

    def go_on(self, edit, state):
        self.states[self.at + 1:] = [state]
        self.edits[self.at:] = [edit]
        self.at += 1

    def change_count(self, name, kind, count):
        plates, hung, work = self.states[self.at]
        after = plates.get(kind, 0) + (count if name == "put" else -count)
        if not 0 <= after <= MOST:
            return False
        plates = {**plates, kind: after}
        self.go_on((name, kind, count), ({one: plates[one] for one in plates if plates[one]}, hung, work))
        return True

    def show(self, row, gets):
        plates, hung, work = self.states[self.at]
        case = Case(self.font, list(plates.items()))
        if first_wrong(case, hung, row, gets) is not None:
            return False
        after = {kind: count - sum(get == ("case", kind) for get in gets) for kind, count in plates.items()}
        for at, plate in enumerate(hung):
            if plate and ("hook", at) not in gets:
                after[plate[0]] = after.get(plate[0], 0) + 1
        if max(after.values(), default=0) > MOST:
            return False
        kinds = [get and (hung[get[1]][0] if get[0] == "hook" else get[1]) for get in gets]
        shown = tuple(None if kind is None else (kind, sign) for kind, sign in zip(kinds, row))
        cost = plain_cost(hung, row, self.costs, gets)
        self.go_on(("show", row, gets), ({kind: after[kind] for kind in after if after[kind]}, shown, work + cost))
        return True


class LongHistoriesTest(PlatesTest):

    def step(self, chance, vestry, model, depth):
        name = chance.choice(["put", "take", "show", "show", "show", "undo", "redo", "trial", "apply"])
        if name in ("put", "take"):
            kind, count = chance.choice(["00", "69", "8-", "68"]), chance.choice([1, 2, MOST])
            done = model.change_count(name, kind, count)
            self.assertIs(self.tried(getattr(vestry, name), kind[::-1], count), done)
        elif name in ("show", "apply"):
            row = "".join(chance.choice("0689...") for _ in range(3))
            plates, hung, _ = model.states[model.at]
            choices = list(all_gets(Case(FONT, list(plates.items())), hung, row))
            gets = chance.choice(choices) if choices else (None,) * 3
            done = model.show(row, gets)
            action = vestry.show if name == "show" else lambda *show: vestry.apply(("show", *show))
            self.assertIs(self.tried(action, row, list(gets)), done)
        elif name == "trial":
            self.trial(chance, vestry, model, depth)
        else:
            most = model.at if name == "undo" else len(model.edits) - model.at
            count = chance.randrange(1, 4)
            if count <= most:
                model.at += count if name == "redo" else -count
            self.assertIs(self.tried(getattr(vestry, name), count), count <= most)
        self.assertEqual(seen(vestry), model.seen(depth))

    def tried(self, action, *arguments):
        try:
            action(*arguments)
        except (TooFew, TooMany, InvalidGets, OutOfRange, InvalidEdit):
            return False
        return True

    def trial(self, chance, vestry, model, depth):
        inner = model.copied()
        fails, keeps = chance.randrange(2), chance.randrange(2)

        def action(same):
            for _ in range(chance.randrange(4)):
                self.step(chance, same, inner, depth + 1)
            if fails:
                raise LookupError

        try:
            (vestry.attempt if keeps else vestry.explore)(action)
        except LookupError:
            pass
        if keeps and not fails:
            model.states, model.edits, model.at = inner.states, inner.edits, inner.at

    def test_long_histories(self):
        shows = 0
        for seed in range(12):
            chance = random.Random(seed)
            case = Case(FONT, [("69", 2), ("8-", 1), ("06", MOST)])
            costs = tuple(chance.choice([0, 1, 5, MOST]) for _ in range(3))
            vestry, model = Vestry(case, 3, costs), Model(case, 3, costs)
            for _ in range(60):
                self.step(chance, vestry, model, 0)
            shows += len([edit for edit in model.edits if edit[0] == "show"])
        self.assertGreater(shows, 60)


if __name__ == "__main__":
    unittest.main()
