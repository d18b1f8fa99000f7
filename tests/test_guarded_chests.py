"""The classes of chests, wants that go on hanging, and counts of what was performed: promise 24."""

import inspect
import unittest

from hymnplates.cases import Case
from hymnplates.chests import Chest, CountedChest, GuardedChest, GuardedCountedChest
from hymnplates.errors import InvalidEdit, InvalidKind, InvalidNumber, OtherFont, OutOfRange, TooFew, TooMany, Unhung
from hymnplates.fonts import Font
from hymnplates.wants import Wants
from support import FONT, MOST, OTHER, PlatesTest, of

CASE = Case(FONT, [("69", 2), ("8-", 1), ("06", 3)])
GUARDED = [GuardedChest, GuardedCountedChest]
COUNTED = [CountedChest, GuardedCountedChest]


class ExamplesTest(PlatesTest):

    def test_first_example_of_the_document(self):
        chest = GuardedChest(Case(Font("01"), [("01", 2)]), Wants.of(Font("01"), "11"))
        self.assert_error(Unhung, {"index": 0, "lack": "1"}, chest.take, "01", 1)

    def test_second_example_of_the_document(self):
        chest = GuardedCountedChest(Case(Font("01"), [("01", 2)]), Wants.of(Font("01"), "1"))
        self.assertIsNone(chest.put("11", 3))
        self.assertIsNone(chest.undo())
        told = chest.explore(lambda inner: [inner.depth, inner.take("01", 1), inner.case.size])
        self.assertEqual(told, [1, None, 1])
        told = [chest.counts, chest.case.size, chest.history()]
        self.assertEqual(told, [{"put": 1, "take": 1, "undo": 1}, 2, []])
        self.assert_error(Unhung, {"index": 0, "lack": "1"}, chest.set_wants, Wants.of(Font("01"), "111"))
        self.assert_error(InvalidEdit, {"index": 1}, chest.apply, ("put", "00", 1), ("take", "11", 1))


class ClassesTest(PlatesTest):

    def test_which_is_below_which(self):
        classes = [Chest, GuardedChest, CountedChest, GuardedCountedChest]
        below = [[issubclass(one, other) for other in classes] for one in classes]
        self.assertEqual(below, [[True, False, False, False], [True, True, False, False], [True, False, True, False],
                                 [True, True, True, True]])

    def test_what_they_have(self):
        self.assertEqual([hasattr(make(CASE), "counts") for make in [Chest, GuardedChest, *COUNTED]],
                         [False, False, True, True])
        self.assertEqual([hasattr(make(CASE), "set_wants") for make in [Chest, CountedChest, *GUARDED]],
                         [False, False, True, True])

    def test_methods_stand_in_each_class(self):
        methods = {"put": ["kind", "count"], "take": ["kind", "count"], "paint": ["kind", "other", "count"],
                   "apply": ["edits"], "undo": ["count"], "redo": ["count"], "history": [], "attempt": ["action"],
                   "explore": ["action"], "__eq__": ["other"]}
        for make in [Chest, GuardedChest, CountedChest, GuardedCountedChest]:
            own = dict(methods)
            properties = ["case", "depth"]
            if issubclass(make, GuardedChest):
                own["set_wants"] = ["wants"]
                properties.append("wants")
            if issubclass(make, CountedChest):
                properties.append("counts")
            own["__init__"] = ["case", "wants"] if issubclass(make, GuardedChest) else ["case"]
            for name, arguments in own.items():
                self.assertEqual(list(inspect.signature(vars(make)[name]).parameters), ["self", *arguments])
            for name in properties:
                self.assertIsInstance(vars(make)[name], property)
            self.assertEqual(make.__module__, "hymnplates.chests")


class GuardedTest(PlatesTest):
    """A test that can see that a guarded chest has not changed."""

    def assert_refused(self, chest, error, fields, action, *args):
        before = [chest.case, chest.history(), chest.depth, chest.wants, getattr(chest, "counts", None)]
        self.assert_error(error, fields, action, *args)
        self.assertEqual([chest.case, chest.history(), chest.depth, chest.wants, getattr(chest, "counts", None)], before)


class GuardTest(GuardedTest):

    def test_edits_after_which_wants_have_no_plan(self):
        for make in GUARDED:
            chest = make(CASE, of("69"), of("800"), of("66660"))
            self.assert_refused(chest, Unhung, {"index": 1, "lack": "8"}, chest.take, "-8", 1)
            self.assert_refused(chest, Unhung, {"index": 2, "lack": "06"}, chest.take, "69", 1)
            self.assert_refused(chest, Unhung, {"index": 1, "lack": "0"}, chest.paint, "06", "99", 2)
            self.assert_refused(chest, Unhung, {"index": 2, "lack": "06"}, chest.paint, "69", "8-", 1)
            chest.put("66", 1)
            chest.take("69", 1)
            self.assertEqual(chest.case.plates, (("06", 3), ("66", 1), ("69", 1), ("8-", 1)))

    def test_the_first_wants_and_their_least_worst_set_are_told(self):
        for make in GUARDED:
            chest = make(Case(FONT, [("00", 3), ("88", 3)]), of("0"), of("888"), of("000"))
            self.assert_refused(chest, Unhung, {"index": 2, "lack": "0"}, chest.take, "00", 1)
            self.assert_refused(chest, Unhung, {"index": 0, "lack": "0"}, chest.take, "00", 3)
            self.assert_refused(chest, Unhung, {"index": 1, "lack": "8"}, chest.paint, "88", "00", 1)
            chest = make(Case(FONT, [("00", 2), ("69", 2)]), of("0069"))
            self.assert_refused(chest, Unhung, {"index": 0, "lack": "69"}, chest.take, "69", 1)
            self.assert_refused(chest, Unhung, {"index": 0, "lack": "0"}, chest.take, "00", 2)
            self.assert_refused(chest, Unhung, {"index": 0, "lack": "69"}, chest.paint, "69", "00", 2)

    def test_all_other_errors_come_first(self):
        for make in GUARDED:
            chest = make(Case(FONT, [("69", 1), ("88", MOST)]), of("6"))
            self.assert_refused(chest, InvalidKind, {"value": "x"}, chest.take, "x", 1)
            self.assert_refused(chest, InvalidKind, {"value": "x"}, chest.paint, "69", "x", 1)
            self.assert_refused(chest, InvalidNumber, {"value": 0}, chest.take, "69", 0)
            self.assert_refused(chest, TooFew, {"value": "69"}, chest.take, "96", 2)
            self.assert_refused(chest, TooMany, {"value": "88"}, chest.paint, "96", "88", 1)
            self.assert_refused(chest, Unhung, {"index": 0, "lack": "6"}, chest.take, "96", 1)
            self.assert_refused(chest, OutOfRange, {"value": 1}, chest.undo)
            self.assert_refused(chest, OutOfRange, {"value": None}, chest.redo, None)

    def test_each_edit_of_an_apply_must_leave_the_wants_hanging(self):
        for make in GUARDED:
            chest = make(Case(FONT, [("69", 1)]), of("6"))
            edits = [("take", "69", 1), ("put", "69", 1)]
            self.assert_refused(chest, InvalidEdit, {"index": 0}, chest.apply, *edits)
            self.assert_refused(chest, InvalidEdit, {"index": 1}, chest.apply, ("put", "88", 1), *edits)
            self.assert_refused(chest, InvalidEdit, {"index": 0}, chest.apply, edits[0], None)
            chest.apply(*reversed(edits))
            self.assertEqual(chest.case, Case(FONT, [("69", 1)]))

    def test_only_the_case_after_several_undone_edits_counts(self):
        for make in GUARDED:
            chest = make(Case(FONT, [("69", 1)]), of(""))
            chest.apply(("take", "69", 1), ("put", "88", 1), ("put", "66", 1))
            chest.set_wants(of("6"))
            self.assert_refused(chest, Unhung, {"index": 0, "lack": "6"}, chest.undo)
            self.assert_refused(chest, Unhung, {"index": 0, "lack": "6"}, chest.undo, 2)
            self.assert_refused(chest, OutOfRange, {"value": 4}, chest.undo, 4)
            chest.undo(3)
            self.assertEqual(chest.case, Case(FONT, [("69", 1)]))
            self.assert_refused(chest, Unhung, {"index": 0, "lack": "6"}, chest.redo)
            self.assert_refused(chest, Unhung, {"index": 0, "lack": "6"}, chest.redo, 2)
            self.assert_refused(chest, OutOfRange, {"value": 4}, chest.redo, 4)
            chest.redo(3)
            self.assertEqual(chest.case, Case(FONT, [("66", 1), ("88", 1)]))

    def test_bounds_of_counts(self):
        for make in GUARDED:
            chest = make(Case(FONT, [("69", MOST), ("6-", 1)]), of("6") * MOST)
            chest.take("96", 1)
            self.assert_refused(chest, Unhung, {"index": 0, "lack": "6"}, chest.take, "-6", 1)
            self.assert_refused(chest, Unhung, {"index": 0, "lack": "6"}, chest.take, "69", MOST - 1)

    def test_without_wants_all_edits_are_left(self):
        for make in GUARDED:
            for chest in [make(CASE), make(CASE, of("")), make(Case(FONT), of(""), of(""))]:
                while chest.case.size:
                    chest.take(*chest.case.plates[0])
                self.assertEqual(chest.case, Case(FONT))


class WantsTest(GuardedTest):

    def test_wants_are_told_as_a_tuple(self):
        for make in GUARDED:
            self.assertEqual(make(CASE).wants, ())
            self.assertEqual(make(CASE, of("69"), of("")).wants, (of("69"), of("")))
            with self.assertRaises(AttributeError):
                make(CASE).wants = ()

    def test_errors_of_the_constructor(self):
        for make in GUARDED:
            other = Wants.of(OTHER, "0")
            self.assert_error(OtherFont, {}, make, CASE, other)
            self.assert_error(OtherFont, {}, make, CASE, of("888"), of("6"), other)
            self.assert_error(Unhung, {"index": 0, "lack": "8"}, make, CASE, of("888"))
            self.assert_error(Unhung, {"index": 1, "lack": "08"}, make, CASE, of("6"), of("000088"), of("888"))
            self.assert_error(Unhung, {"index": 0, "lack": "6"}, make, Case(FONT), of("6"))

    def test_wants_are_replaced(self):
        for make in GUARDED:
            chest = make(CASE, of("69"))
            chest.put("88", 1)
            self.assertIsNone(chest.set_wants(of("88"), of("0")))
            self.assertEqual([chest.wants, chest.history()], [(of("88"), of("0")), [("put", "88", 1)]])
            self.assert_refused(chest, Unhung, {"index": 0, "lack": "8"}, chest.undo)
            chest.take("69", 2)
            self.assertIsNone(chest.set_wants())
            self.assertEqual(chest.wants, ())
            chest.undo(2)
            self.assertEqual(chest.case, CASE)

    def test_replacing_wants_is_no_edit(self):
        for make in GUARDED:
            chest = make(CASE)
            chest.put("88", 1)
            chest.undo()
            chest.set_wants(of("6"))
            chest.redo()
            self.assertEqual(chest.history(), [("put", "88", 1)])
            if make is GuardedCountedChest:
                self.assertEqual(chest.counts, {"put": 1, "redo": 1, "undo": 1})

    def test_errors_of_replacing(self):
        for make in GUARDED:
            chest = make(CASE, of("69"))
            chest.put("00", 1)
            self.assert_refused(chest, OtherFont, {}, chest.set_wants, of("888"), Wants.of(OTHER, "0"))
            self.assert_refused(chest, Unhung, {"index": 1, "lack": "8"}, chest.set_wants, of("0"), of("88"), of("888"))
            chest.undo()
            chest.redo()

    def test_the_end_of_a_trial_does_not_change_wants_and_never_refuses(self):
        for make in GUARDED:
            chest = make(CASE, of("69"))

            def action(inner):
                inner.put("88", 3)
                inner.set_wants(of("8888"))
                return inner.wants

            def failing(inner):
                action(inner)
                raise KeyError("told")
            self.assertEqual(chest.explore(action), (of("8888"),))
            self.assertEqual([chest.case, chest.wants], [CASE, (of("8888"),)])
            # The restored case does not hang, and so each edit after which it still does not is refused.
            self.assert_refused(chest, Unhung, {"index": 0, "lack": "8"}, chest.put, "00", 1)
            self.assert_refused(chest, Unhung, {"index": 0, "lack": "8"}, chest.paint, "69", "69", 1)
            self.assertIsNone(chest.apply())
            chest.put("8-", 3)
            chest.set_wants()
            chest.undo()
            self.assertRaises(KeyError, chest.attempt, failing)
            self.assertEqual([chest.case, chest.wants, chest.depth], [CASE, (of("8888"),), 0])

    def test_wants_are_replaced_in_trials_inside_trials(self):
        for make in GUARDED:
            chest = make(CASE)
            chest.attempt(lambda inner: inner.explore(lambda again: [again.put("88", 1), again.set_wants(of("88"))]))
            self.assertEqual([chest.case, chest.wants], [CASE, (of("88"),)])

    def test_a_trial_does_not_let_edits_pass(self):
        for make in GUARDED:
            chest = make(CASE, of("8"))
            fields = {"index": 0, "lack": "8"}
            self.assert_refused(chest, Unhung, fields, chest.attempt, lambda inner: inner.take("8-", 1))
            self.assert_refused(chest, Unhung, fields, chest.explore, lambda inner: inner.take("8-", 1))


class CountsTest(PlatesTest):

    def test_each_method_is_counted(self):
        for make in COUNTED:
            chest = make(CASE)
            self.assertEqual(chest.counts, {})
            chest.take("69", 1)
            chest.take("69", 1)
            chest.put("88", MOST)
            chest.paint("06", "80", 2)
            self.assertEqual(list(chest.counts.items()), [("paint", 1), ("put", 1), ("take", 2)])
            chest.undo(3)
            chest.redo()
            chest.redo(2)
            chest.undo()
            told = [("paint", 1), ("put", 1), ("redo", 3), ("take", 2), ("undo", 4)]
            self.assertEqual(list(chest.counts.items()), told)

    def test_edits_of_an_apply_are_counted_once_each(self):
        for make in COUNTED:
            chest = make(CASE)
            chest.apply(("put", "88", 1), ("put", "88", 1), ("paint", "88", "88", 2))
            chest.apply()
            self.assertEqual(chest.counts, {"paint": 1, "put": 2})
            chest.undo(2)
            self.assertEqual(chest.counts, {"paint": 1, "put": 2, "undo": 2})

    def test_what_raises_an_error_is_not_counted(self):
        for make in COUNTED:
            chest = make(CASE)
            self.assert_error(InvalidEdit, {"index": 1}, chest.apply, ("put", "88", 1), ("take", "88", 2))
            self.assert_value_error(TooFew, "88", chest.take, "88", 1)
            self.assert_value_error(InvalidKind, "x", chest.put, "x", 1)
            self.assert_value_error(OutOfRange, 1, chest.undo)
            self.assert_value_error(OutOfRange, 1, chest.redo)
            self.assertEqual(chest.counts, {})
        chest = GuardedCountedChest(CASE, of("8"))
        self.assert_error(Unhung, {"index": 0, "lack": "8"}, chest.take, "8-", 1)
        self.assertEqual(chest.counts, {})

    def test_trials_take_no_counts_back(self):
        for make in COUNTED:
            chest = make(CASE)
            chest.explore(lambda inner: [inner.put("88", 1), inner.put("88", 1), inner.undo()])
            self.assertEqual(chest.counts, {"put": 2, "undo": 1})

            def action(inner):
                inner.take("69", 1)
                inner.explore(lambda again: again.redo() if again.history() == [] else again.undo())
                inner.take("69", 2)
            self.assert_value_error(TooFew, "69", chest.attempt, action)
            self.assertEqual([chest.counts, chest.case], [{"put": 2, "take": 1, "undo": 2}, CASE])

    def test_counts_are_new(self):
        for make in COUNTED:
            chest = make(CASE)
            chest.put("88", 1)
            told = chest.counts
            told["put"] = 7
            told["take"] = 1
            self.assertEqual(chest.counts, {"put": 1})
            with self.assertRaises(AttributeError):
                chest.counts = {}

    def test_each_chest_counts_for_itself(self):
        one, other = CountedChest(CASE), CountedChest(CASE)
        one.put("88", 1)
        self.assertEqual([one.counts, other.counts], [{"put": 1}, {}])


if __name__ == "__main__":
    unittest.main()
