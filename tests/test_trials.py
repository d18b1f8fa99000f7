"""Trials of chests, and random walks of all classes beside a plain model: promises 4, 22, 23 and 24."""

import random
import unittest

from hymnplates.cases import Case
from hymnplates.chests import Chest, CountedChest, GuardedChest, GuardedCountedChest
from hymnplates.errors import InvalidEdit, InvalidKind, InvalidNumber, OutOfRange, TooFew, TooMany, Unhung
from hymnplates.fonts import Font
from hymnplates.hanging import answer, shortage
from hymnplates.wants import Wants
from searches import plain_shortage
from support import FONT, PlatesTest

CASE = Case(FONT, [("69", 2), ("8-", 1), ("06", 3)])
CLASSES = [Chest, GuardedChest, CountedChest, GuardedCountedChest]


class Stop(Exception):
    """What the actions of these tests raise."""


class Halt(BaseException):
    """An exception that is no Exception."""


def stop(_):
    raise Stop("told")


class TrialTest(PlatesTest):

    def setUp(self):
        self.chests = []
        for make in CLASSES:
            chest = make(CASE)
            chest.put("88", 1)
            chest.put("88", 2)
            chest.put("88", 3)
            chest.undo()
            self.chests.append(chest)

    def state(self, chest):
        """All that a trial restores, also what can be redone."""
        case, history, depth = chest.case, chest.history(), chest.depth
        cases = []
        try:
            while True:
                chest.redo()
                cases.append(chest.case)
        except OutOfRange:
            pass
        if cases:
            chest.undo(len(cases))
        return [case, history, depth, cases]

    def work(self, chest):
        """Changes the case, the history and what can be redone."""
        chest.undo(2)
        chest.put("00", 1)
        chest.paint("06", "66", 2)
        chest.put("09", 4)
        chest.undo()
        return chest.case["66"]

    def fail(self, chest):
        self.work(chest)
        raise Stop("told")


class AttemptTest(TrialTest):

    def test_an_attempt_returns_what_the_action_returns(self):
        for chest in self.chests:
            for value in [None, 0, [1], {"0": 1}, chest]:
                self.assertIs(chest.attempt(lambda inner: value), value)
                self.assertIs(chest.explore(lambda inner: value), value)

    def test_the_action_is_called_with_the_chest(self):
        for chest in self.chests:
            self.assertIs(chest.attempt(lambda *told: told[0] if len(told) == 1 else None), chest)
            self.assertIs(chest.explore(lambda *told: told[0] if len(told) == 1 else None), chest)

    def test_an_attempt_leaves_what_its_action_did(self):
        for chest in self.chests:
            self.assertEqual(chest.attempt(self.work), 2)
            self.assertEqual(chest.depth, 0)
            self.assertEqual(dict(chest.case.plates), {"00": 1, "06": 1, "66": 2, "69": 2, "8-": 1})
            self.assertEqual(chest.history(), [("put", "00", 1), ("paint", "06", "66", 2)])
            chest.redo()
            self.assertEqual(chest.case["09"], 4)
            self.assert_value_error(OutOfRange, 1, chest.redo)
            chest.undo(3)
            self.assertEqual(chest.case, CASE)

    def test_an_exception_takes_back_what_the_action_did(self):
        for chest in self.chests:
            before = self.state(chest)
            with self.assertRaises(Stop) as caught:
                chest.attempt(self.fail)
            self.assertEqual(caught.exception.args, ("told",))
            self.assertEqual(self.state(chest), before)

    def test_the_very_exception_goes_on(self):
        for error in [Stop(), Halt(), KeyboardInterrupt(), GeneratorExit(), ValueError(), TooFew("x")]:
            for chest in self.chests:
                def action(inner):
                    inner.put("99", 1)
                    raise error
                for trial in [chest.attempt, chest.explore]:
                    before = self.state(chest)
                    with self.assertRaises(type(error)) as caught:
                        trial(action)
                    self.assertIs(caught.exception, error)
                    self.assertEqual(self.state(chest), before)

    def test_errors_of_edits_leave_it_too(self):
        for chest in self.chests:
            before = self.state(chest)

            def action(inner):
                inner.put("00", 1)
                inner.take("00", 2)
            self.assert_value_error(TooFew, "00", chest.attempt, action)
            self.assertEqual(self.state(chest), before)

    def test_an_exception_that_does_not_leave_takes_nothing_back(self):
        def action(inner):
            inner.put("00", 1)
            try:
                inner.take("00", 2)
            except TooFew:
                inner.put("00", 5)
        for chest in self.chests:
            chest.attempt(action)
            self.assertEqual(chest.case["00"], 6)

    def test_what_cannot_be_called(self):
        for chest in self.chests:
            before = self.state(chest)
            for trial in [chest.attempt, chest.explore]:
                with self.assertRaises(TypeError):
                    trial(None)
            self.assertEqual(self.state(chest), before)


class ExploreTest(TrialTest):

    def test_explore_takes_back_what_the_action_did(self):
        for chest in self.chests:
            before = self.state(chest)
            self.assertEqual(chest.explore(self.work), 2)
            self.assertEqual(self.state(chest), before)
            with self.assertRaises(Stop):
                chest.explore(self.fail)
            self.assertEqual(self.state(chest), before)

    def test_what_was_told_in_a_trial_stays_the_same(self):
        for chest in self.chests:
            case, history = chest.explore(lambda inner: [self.work(inner), inner.case, inner.history()])[1:]
            self.assertEqual([case["66"], history], [2, [("put", "00", 1), ("paint", "06", "66", 2)]])

    def test_edits_of_before_are_undone_in_a_trial(self):
        for chest in self.chests:
            before = self.state(chest)
            told = chest.explore(lambda inner: [inner.undo(2), inner.case, inner.redo(3), inner.case["88"]])
            self.assertEqual(told, [None, CASE, None, 6])
            self.assertEqual(self.state(chest), before)


class NestedTest(TrialTest):

    def test_depths(self):
        for chest in self.chests:
            def deeper(inner, left=20):
                depth = inner.depth
                told = [depth]
                if left:
                    trial = inner.attempt if left & 1 else inner.explore
                    told += trial(lambda again: deeper(again, left - 1))
                self.assertEqual(inner.depth, depth)
                return told
            self.assertEqual(chest.attempt(deeper), list(range(1, 22)))
            self.assertEqual(chest.depth, 0)

    def test_depths_behind_errors(self):
        def action(inner):
            with self.assertRaises(Stop):
                inner.attempt(stop)
            with self.assertRaises(Stop):
                inner.explore(lambda again: again.attempt(stop))
            return inner.depth
        for chest in self.chests:
            self.assertEqual([chest.attempt(action), chest.explore(action), chest.depth], [1, 1, 0])

    def test_an_inner_trial_takes_back_only_its_own(self):
        def action(inner):
            inner.put("00", 1)
            before = self.state(inner)
            inner.explore(self.work)
            with self.assertRaises(Stop):
                inner.attempt(self.fail)
            self.assertEqual(self.state(inner), before)
            inner.put("00", 2)
        for chest in self.chests:
            chest.attempt(action)
            self.assertEqual([chest.case["00"], chest.history()[-2:]], [3, [("put", "00", 1), ("put", "00", 2)]])

    def test_an_outer_trial_takes_back_what_inner_ones_left(self):
        for chest in self.chests:
            before = self.state(chest)
            chest.explore(lambda inner: inner.attempt(self.work))
            self.assertEqual(self.state(chest), before)
            with self.assertRaises(Stop):
                chest.attempt(lambda inner: [inner.attempt(self.work), stop(inner)])
            self.assertEqual(self.state(chest), before)

    def test_two_chests(self):
        one, other = Chest(CASE), CountedChest(CASE)
        one.explore(lambda inner: other.attempt(lambda second: [inner.put("00", 1), second.put("00", 2)]))
        self.assertEqual([one.case["00"], other.case["00"], one.depth, other.depth], [0, 2, 0, 0])


class Model:
    """A chest, told in the plainest way: lists of cases that are copied whenever they change."""

    def __init__(self, case, wants):
        self.cases = [case]
        self.edits = []
        self.at = 0
        self.wants = wants
        self.counts = {}

    def refuses(self, case):
        for index, wants in enumerate(self.wants):
            number, lack, _ = plain_shortage(case, wants)
            if number:
                return Unhung, (index, lack)
        return None

    def after(self, case, edit):
        """The case after an edit, or an error with its fields."""
        name, kind, *others, count = edit
        font = case.font
        for one in [kind, *others]:
            if one == "--" or len(one) != 2 or any(side not in font.signs + "-" for side in one):
                return InvalidKind, (one,)
        if type(count) is not int or not 1 <= count <= 10 ** 30:
            return InvalidNumber, (count,)
        counts = dict(case.plates)
        kept = [font.kept(one) for one in [kind, *others]]
        if name != "put":
            if counts.get(kept[0], 0) < count:
                return TooFew, (kept[0],)
            counts[kept[0]] -= count
        if name != "take":
            counts[kept[-1]] = counts.get(kept[-1], 0) + count
            if counts[kept[-1]] > 10 ** 30:
                return TooMany, (kept[-1],)
        after = Case(font, [(one, many) for one, many in counts.items() if many])
        return self.refuses(after) or after

    def edit(self, *edits):
        """Performs edits, or returns (index, error, fields)."""
        case = self.cases[self.at]
        cases, kept = [], []
        for index, edit in enumerate(edits):
            case = self.after(case, edit)
            if isinstance(case, tuple):
                return index, *case
            cases.append(case)
            kept.append((edit[0], *[case.font.kept(one) for one in edit[1:-1]], edit[-1]))
        if edits:
            self.cases = self.cases[:self.at + 1] + cases
            self.edits = self.edits[:self.at] + kept
            self.at += len(edits)
            for edit in edits:
                self.counts[edit[0]] = self.counts.get(edit[0], 0) + 1
        return None

    def move(self, name, count):
        least, most = (1, self.at) if name == "undo" else (1, len(self.edits) - self.at)
        if not least <= count <= most:
            return OutOfRange, (count,)
        at = self.at + (count if name == "redo" else -count)
        refused = self.refuses(self.cases[at])
        if refused:
            return refused
        self.at = at
        self.counts[name] = self.counts.get(name, 0) + count
        return None


class WalkTest(PlatesTest):
    """Random walks with trials inside trials; what they do is held against the model."""

    def setUp(self):
        self.told = {}

    def test_walks(self):
        for make in CLASSES:
            for seed in range(12):
                chance = random.Random(seed)
                font = chance.choice([Font("01"), Font("069", [("6", "9")]), FONT])
                kinds = [one + other for one in font.signs + "-" for other in font.signs + "-"] + ["x0"]
                case = Case(font, [(font.kept(kind), chance.choice([1, 3, 10 ** 30])) for kind in ["00", "0-"]])
                wants = [Wants.of(font, "0")] if make in (GuardedChest, GuardedCountedChest) else []
                chest = make(case, *wants)
                self.walk(chance, kinds, chest, Model(case, wants), 0)
        for name in ["edited", "applied", "undone", "redone", "refused", "attempted", "stopped", "explored", "wanted"]:
            self.assertGreater(self.told.get(name, 0), 20, name)

    def tell(self, name):
        self.told[name] = self.told.get(name, 0) + 1

    def walk(self, chance, kinds, chest, model, depth):
        for _ in range(12 if depth else 40):
            action = chance.choice([self.one_edit] * 4 + [self.some_edits, self.moves, self.moves, self.wants])
            action(chance, kinds, chest, model)
            if depth < 3 and chance.randrange(8) == 0:
                self.trial(chance, kinds, chest, model, depth)
            self.compare(chest, model, depth)

    def compare(self, chest, model, depth):
        self.assertEqual(chest.case, model.cases[model.at])
        self.assertEqual([chest.history(), chest.depth], [model.edits[:model.at], depth])
        if isinstance(chest, CountedChest):
            self.assertEqual(list(chest.counts.items()), sorted(model.counts.items()))
        if isinstance(chest, GuardedChest):
            self.assertEqual(chest.wants, tuple(model.wants))
        if depth == 0:
            wants = Wants.of(chest.case.font, chest.case.font.signs)
            self.assertEqual(answer(chest.case, wants), answer(Case(wants.font, chest.case.plates), wants))
            self.assertEqual(shortage(chest.case, wants), plain_shortage(chest.case, wants))

    def some_edit(self, chance, kinds):
        name = chance.choice(["put", "put", "take", "paint"])
        count = chance.choice([1, 1, 1, 2, 3, 0, 10 ** 30, 10 ** 30 + 1])
        return (name, *[chance.choice(kinds) for _ in range(2 if name == "paint" else 1)], count)

    def refused(self, error, fields, action, *args):
        self.tell("refused")
        with self.assertRaises(error) as caught:
            action(*args)
        self.assertEqual(tuple(vars(caught.exception).values()), fields)

    def one_edit(self, chance, kinds, chest, model):
        edit = self.some_edit(chance, kinds)
        wrong = model.edit(edit)
        if wrong:
            self.refused(*wrong[1:], getattr(chest, edit[0]), *edit[1:])
        else:
            self.tell("edited")
            self.assertIsNone(getattr(chest, edit[0])(*edit[1:]))

    def some_edits(self, chance, kinds, chest, model):
        edits = [self.some_edit(chance, kinds) for _ in range(chance.randrange(3))]
        wrong = model.edit(*edits)
        if wrong:
            self.refused(InvalidEdit, wrong[:1], chest.apply, *edits)
        else:
            self.tell("applied")
            self.assertIsNone(chest.apply(*edits))

    def moves(self, chance, kinds, chest, model):
        name, count = chance.choice(["undo", "undo", "redo"]), chance.choice([1, 1, 2, 3, 0])
        wrong = model.move(name, count)
        if wrong:
            self.refused(*wrong, getattr(chest, name), count)
        else:
            self.tell(name.replace("undo", "undone").replace("redo", "redone"))
            self.assertIsNone(getattr(chest, name)(count))

    def wants(self, chance, kinds, chest, model):
        if not isinstance(chest, GuardedChest):
            return
        font = chest.case.font
        wants = [Wants.of(font, chance.choice(["", "0", "00", font.signs[:2]])) for _ in range(chance.randrange(3))]
        before = model.wants
        model.wants = wants
        wrong = model.refuses(chest.case)
        if wrong:
            model.wants = before
            self.refused(*wrong, chest.set_wants, *wants)
        else:
            self.tell("wanted")
            self.assertIsNone(chest.set_wants(*wants))

    def trial(self, chance, kinds, chest, model, depth):
        kept = model.cases, model.edits, model.at
        way = chance.choice(["attempted", "stopped", "explored"])
        self.tell(way)

        def action(inner):
            self.compare(chest, model, depth + 1)
            self.walk(chance, kinds, chest, model, depth + 1)
            if way == "stopped":
                raise Stop()
            return inner
        if way == "stopped":
            self.assertRaises(Stop, chance.choice([chest.attempt, chest.explore]), action)
        else:
            self.assertIs((chest.attempt if way == "attempted" else chest.explore)(action), chest)
        if way != "attempted":
            model.cases, model.edits, model.at = kept


if __name__ == "__main__":
    unittest.main()
