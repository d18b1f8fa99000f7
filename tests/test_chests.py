"""Edits of chests, their errors, and the history: promises 21 and 22."""

import unittest

from hymnplates.cases import Case
from hymnplates.chests import Chest, CountedChest, GuardedChest, GuardedCountedChest
from hymnplates.errors import InvalidEdit, InvalidKind, InvalidNumber, OutOfRange, TooFew, TooMany
from hymnplates.fonts import Font, all_kinds
from hymnplates.wants import Wants
from support import FONT, MOST, OTHER, PlatesTest, nested, no_numbers, strange_values

CASE = Case(FONT, [("69", 2), ("8-", 1), ("06", 3)])
CLASSES = [Chest, GuardedChest, CountedChest, GuardedCountedChest]


def counts_of(chest):
    return dict(chest.case.plates)


class ChestTest(PlatesTest):
    """A test that can see that a chest has not changed."""

    def assert_refused(self, chest, error, fields, action, *args, **named):
        """The action raises the error and changes nothing."""
        before = [chest.case, chest.history(), chest.depth]
        self.assert_error(error, fields, action, *args, **named)
        self.assertEqual([chest.case, chest.history(), chest.depth], before)


class ExamplesTest(ChestTest):

    def test_first_example_of_the_document(self):
        chest = Chest(Case(Font("01"), [("01", 2)]))
        self.assertIsNone(chest.put("-1", 1))
        self.assertIsNone(chest.paint("10", "11", 2))
        told = [chest.history(), chest.case.plates]
        self.assertEqual(told, [[("put", "1-", 1), ("paint", "01", "11", 2)], (("11", 2), ("1-", 1))])
        self.assert_value_error(TooFew, "1-", chest.take, "-1", 2)


class EditsTest(ChestTest):

    def test_plates_are_put(self):
        for make in CLASSES:
            chest = make(CASE)
            for kind, count in [("96", 1), ("-0", 5), ("88", MOST), ("0-", 2)]:
                self.assertIsNone(chest.put(kind, count))
            self.assertEqual(counts_of(chest), {"06": 3, "0-": 7, "69": 3, "88": MOST, "8-": 1})
            told = [("put", "69", 1), ("put", "0-", 5), ("put", "88", MOST), ("put", "0-", 2)]
            self.assertEqual(chest.history(), told)

    def test_plates_are_taken(self):
        for make in CLASSES:
            chest = make(CASE)
            for kind, count in [("96", 1), ("60", 3), ("8-", 1)]:
                self.assertIsNone(chest.take(kind, count))
            self.assertEqual(counts_of(chest), {"69": 1})
            self.assertEqual(chest.history(), [("take", "69", 1), ("take", "06", 3), ("take", "8-", 1)])

    def test_plates_are_painted(self):
        for make in CLASSES:
            chest = make(CASE)
            for kind, other, count in [("96", "-9", 1), ("60", "96", 3), ("8-", "00", 1)]:
                self.assertIsNone(chest.paint(kind, other, count))
            self.assertEqual(counts_of(chest), {"00": 1, "69": 4, "9-": 1})
            told = [("paint", "69", "9-", 1), ("paint", "06", "69", 3), ("paint", "8-", "00", 1)]
            self.assertEqual(chest.history(), told)

    def test_painting_a_kind_to_itself(self):
        for kind, other in [("69", "69"), ("69", "96"), ("96", "96"), ("96", "69")]:
            chest = CountedChest(CASE)
            for count in [1, 2]:
                self.assertIsNone(chest.paint(kind, other, count))
            self.assertEqual([chest.case, chest.counts], [CASE, {"paint": 2}])
            self.assertEqual(chest.history(), [("paint", "69", "69", 1), ("paint", "69", "69", 2)])
            chest.undo()
            self.assertEqual([chest.case, len(chest.history())], [CASE, 1])
            self.assert_refused(chest, TooFew, {"value": "69"}, chest.paint, kind, other, 3)
        chest = Chest(Case(FONT, [("69", MOST)]))
        chest.paint("96", "69", MOST)
        self.assertEqual(chest.case["69"], MOST)
        self.assert_refused(chest, TooFew, {"value": "8-"}, chest.paint, "-8", "8-", 1)

    def test_a_chest_begins_with_its_case(self):
        for make in CLASSES:
            chest = make(CASE)
            self.assertEqual([chest.case, chest.history(), chest.depth], [CASE, [], 0])
            for name in ["case", "depth"]:
                with self.assertRaises(AttributeError):
                    setattr(chest, name, CASE)

    def test_the_case_that_was_passed_and_those_that_were_told_stay_the_same(self):
        case = Case(FONT, [("69", 2)])
        chest = Chest(case)
        chest.put("69", 1)
        told = chest.case
        chest.take("69", 3)
        self.assertEqual([case["69"], told["69"], chest.case["69"]], [2, 3, 0])

    def test_arguments_by_name(self):
        for make in CLASSES:
            chest = make(case=CASE) if make in (Chest, CountedChest) else make(CASE)
            chest.put(count=2, kind="88")
            chest.take(count=1, kind="88")
            chest.paint(count=1, other="99", kind="88")
            chest.undo(count=1)
            chest.redo(count=1)
            self.assertEqual(chest.attempt(action=len_of_history) + chest.explore(action=len_of_history), 6)


def len_of_history(chest):
    return len(chest.history())


class ErrorsTest(ChestTest):

    def test_any_other_value_is_no_kind(self):
        for value in strange_values() + ["", "0", "--", "01", "069", ("6", "9"), ["6", "9"], [], {}]:
            with self.subTest(value=value):
                chest = Chest(CASE)
                fields = {"value": value}
                self.assert_refused(chest, InvalidKind, fields, chest.put, value, 1)
                self.assert_refused(chest, InvalidKind, fields, chest.take, value, None)
                self.assert_refused(chest, InvalidKind, fields, chest.paint, value, "69", 1)
                self.assert_refused(chest, InvalidKind, fields, chest.paint, "69", value, 0)
                self.assert_refused(chest, InvalidKind, fields, chest.paint, value, value, 0)

    def test_any_other_value_is_no_count(self):
        for value in no_numbers(1, MOST):
            with self.subTest(value=value):
                chest = Chest(CASE)
                fields = {"value": value}
                self.assert_refused(chest, InvalidNumber, fields, chest.put, "69", value)
                self.assert_refused(chest, InvalidNumber, fields, chest.take, "88", value)
                self.assert_refused(chest, InvalidNumber, fields, chest.paint, "88", "69", value)

    def test_too_few_plates(self):
        chest = Chest(CASE)
        for kind, count in [("96", 3), ("-8", 2), ("60", MOST), ("88", 1), ("-9", 1)]:
            fields = {"value": FONT.kept(kind)}
            self.assert_refused(chest, TooFew, fields, chest.take, kind, count)
            self.assert_refused(chest, TooFew, fields, chest.paint, kind, "00", count)

    def test_too_many_plates(self):
        chest = Chest(Case(FONT, [("69", MOST), ("88", MOST - 1), ("06", 2)]))
        self.assert_refused(chest, TooMany, {"value": "69"}, chest.put, "96", 1)
        self.assert_refused(chest, TooMany, {"value": "88"}, chest.put, "88", 2)
        self.assert_refused(chest, TooMany, {"value": "06"}, chest.put, "60", MOST - 1)
        self.assert_refused(chest, TooMany, {"value": "69"}, chest.paint, "06", "96", 1)
        self.assert_refused(chest, TooMany, {"value": "88"}, chest.paint, "60", "88", 2)
        chest.put("60", MOST - 2)
        chest.paint("69", "88", 1)
        self.assertEqual(counts_of(chest), {"06": MOST, "69": MOST - 1, "88": MOST})

    def test_the_order_of_errors(self):
        chest = Chest(Case(FONT, [("69", MOST), ("06", 1)]))
        self.assert_refused(chest, InvalidKind, {"value": "x"}, chest.paint, "x", "y", None)
        self.assert_refused(chest, InvalidKind, {"value": "y"}, chest.paint, "88", "y", None)
        self.assert_refused(chest, InvalidNumber, {"value": None}, chest.paint, "88", "69", None)
        self.assert_refused(chest, InvalidNumber, {"value": MOST + 1}, chest.take, "88", MOST + 1)
        self.assert_refused(chest, TooFew, {"value": "88"}, chest.paint, "88", "69", 1)
        self.assert_refused(chest, TooFew, {"value": "06"}, chest.paint, "60", "96", 2)
        self.assert_refused(chest, TooMany, {"value": "69"}, chest.paint, "60", "96", 1)

    def test_a_refused_edit_leaves_what_can_be_redone(self):
        chest = Chest(CASE)
        chest.put("88", 1)
        chest.undo()
        self.assert_refused(chest, TooFew, {"value": "88"}, chest.take, "88", 1)
        self.assert_refused(chest, InvalidEdit, {"index": 1}, chest.apply, ("put", "00", 1), ("take", "88", 1))
        chest.redo()
        self.assertEqual(chest.history(), [("put", "88", 1)])


class HistoryTest(ChestTest):

    def edited(self, make=Chest):
        """A chest with three edits, and the cases before and after each of them."""
        chest = make(CASE)
        cases = [chest.case]
        for action, args in [(chest.put, ("88", 4)), (chest.take, ("96", 1)), (chest.paint, ("88", "0-", 3))]:
            action(*args)
            cases.append(chest.case)
        return chest, cases

    def test_undo_and_redo(self):
        for make in CLASSES:
            chest, cases = self.edited(make)
            edits = [("put", "88", 4), ("take", "69", 1), ("paint", "88", "0-", 3)]
            for at in [2, 1, 0]:
                self.assertIsNone(chest.undo())
                self.assertEqual([chest.case, chest.history()], [cases[at], edits[:at]])
            for at in [1, 2, 3]:
                self.assertIsNone(chest.redo())
                self.assertEqual([chest.case, chest.history()], [cases[at], edits[:at]])

    def test_several_at_once(self):
        for make in CLASSES:
            chest, cases = self.edited(make)
            at = 3
            for steps in [-3, 3, -2, 1, -2, 2, -1, 1, 1]:
                (chest.undo if steps < 0 else chest.redo)(abs(steps))
                at += steps
                self.assertEqual([chest.case, len(chest.history())], [cases[at], at])

    def test_out_of_range(self):
        for make in CLASSES:
            chest, _ = self.edited(make)
            for at in range(3, -1, -1):
                for value in no_numbers(1, at) if at else no_numbers(1, 0) + [1, 2]:
                    self.assert_refused(chest, OutOfRange, {"value": value}, chest.undo, value)
                for value in no_numbers(1, 3 - at) if at < 3 else no_numbers(1, 0) + [1, 2]:
                    self.assert_refused(chest, OutOfRange, {"value": value}, chest.redo, value)
                if at:
                    chest.undo()
            self.assert_refused(chest, OutOfRange, {"value": 1}, chest.undo)
            chest.redo(3)
            self.assert_refused(chest, OutOfRange, {"value": 1}, chest.redo)

    def test_a_new_edit_ends_redoing(self):
        for action, args in [("put", ("00", 1)), ("paint", ("06", "06", 1)), ("apply", (("put", "00", 1),))]:
            chest, cases = self.edited()
            chest.undo(2)
            getattr(chest, action)(*args)
            self.assert_refused(chest, OutOfRange, {"value": 1}, chest.redo)
            self.assertEqual([len(chest.history()), chest.history()[0]], [2, ("put", "88", 4)])
            chest.undo(2)
            self.assertEqual(chest.case, cases[0])
            chest.redo()
            self.assertEqual(chest.case, cases[1])

    def test_the_history_is_new(self):
        chest, cases = self.edited()
        told = chest.history()
        told.clear()
        chest.history().append(("put", "00", 1))
        self.assertEqual(len(chest.history()), 3)
        chest.undo(3)
        self.assertEqual([chest.case, chest.history()], [cases[0], []])

    def test_what_was_told_before_stays_the_same(self):
        chest, _ = self.edited()
        told = chest.history()
        chest.undo()
        chest.put("00", 1)
        self.assertEqual(told, [("put", "88", 4), ("take", "69", 1), ("paint", "88", "0-", 3)])


class ApplyTest(ChestTest):

    def test_edits_in_turn(self):
        for make in CLASSES:
            chest = make(CASE)
            self.assertIsNone(chest.apply(("put", "-0", 2), ("paint", "0-", "66", 2), ("take", "66", 1)))
            self.assertEqual(counts_of(chest), {"06": 3, "66": 1, "69": 2, "8-": 1})
            told = [("put", "0-", 2), ("paint", "0-", "66", 2), ("take", "66", 1)]
            self.assertEqual(chest.history(), told)
            chest.undo()
            self.assertEqual([chest.case["66"], chest.history()], [2, told[:2]])
            chest.undo(2)
            self.assertEqual(chest.case, CASE)
            chest.redo(3)
            self.assertEqual([chest.case["66"], chest.history()], [1, told])

    def test_an_empty_apply_changes_nothing(self):
        for make in CLASSES:
            chest = make(CASE)
            self.assertIsNone(chest.apply())
            chest.put("88", 1)
            chest.put("88", 2)
            chest.undo(2)
            self.assertIsNone(chest.apply())
            self.assertEqual([chest.case, chest.history()], [CASE, []])
            chest.redo(2)
            self.assertEqual(chest.case["88"], 3)

    def test_all_edits_or_none(self):
        right = [("put", "88", 1), ("take", "88", 1), ("paint", "06", "60", 3), ("paint", "69", "00", 2)]
        wrong = [("take", "88", 1), ("put", "x", 1), ("paint", "06", "x", 1), ("put", "00", 0), ("take", "06", 4),
                 ("put", "06", MOST - 2), ("undo", 1)]
        for edit in wrong:
            for at in range(len(right) + 1):
                chest = CountedChest(CASE)
                chest.put("66", 1)
                chest.undo()
                if (at, edit) != (1, ("take", "88", 1)):
                    edits = right[:at] + [edit] + right[at:] + [None]
                    self.assert_refused(chest, InvalidEdit, {"index": at}, chest.apply, *edits)
                    self.assertEqual(chest.counts, {"put": 1, "undo": 1})
                    chest.redo()

    def test_the_first_wrong_edit_is_told(self):
        chest = Chest(CASE)
        self.assert_refused(chest, InvalidEdit, {"index": 0}, chest.apply, None, ("put", "x", 1))
        self.assert_refused(chest, InvalidEdit, {"index": 1}, chest.apply, ("put", "00", 1), ("put", "x", 1), None)
        # What cannot be performed when its turn comes could be performed before, or behind.
        edits = [("take", "69", 2), ("take", "69", 1), ("put", "69", 1)]
        self.assert_refused(chest, InvalidEdit, {"index": 1}, chest.apply, *edits)
        edits = [("take", "00", 1), ("put", "00", 1)]
        self.assert_refused(chest, InvalidEdit, {"index": 0}, chest.apply, *edits)
        chest.apply(*reversed(edits))
        self.assertEqual(chest.case, CASE)

    def test_any_other_value_is_no_edit(self):
        wrong = ["", "put", (), ("put",), ("put", "69"), ("put", "69", 1, 1), ("take", "69"), ("take", "69", 1, 1),
                 ("paint", "69", 1), ("paint", "69", "66", 1, 1), ["put", "69", 1], [("put", "69", 1)], (("put", "69", 1),),
                 ("Put", "69", 1), ("undo",), ("undo", 1), ("redo", 1), ("apply",), ("attempt", None), ("history",),
                 ("put ", "69", 1), (None, "69", 1), (["put"], "69", 1), ({}, "69", 1), (("put",), "69", 1), ("69", 1),
                 ("put", ("69",), 1), ("put", ["69"], 1), ("put", "69", True), ("put", "69", "1"), ("put", "69", [1]),
                 ("put", "69", (1,)), ("put", "69", None), ("put", "69", 0), ("put", "69", -1), ("put", "69", MOST + 1),
                 ("paint", "69", ["66"], 1), ("paint", {}, "66", 1), ("put", nested(20), 1), (CASE, "69", 1),
                 {"put": ("69", 1)}, ("_perform", "69", 1), ("show", "69", ["6"]), ("set_wants",)]
        for make in CLASSES:
            chest = make(CASE)
            for value in wrong + strange_values():
                with self.subTest(value=value):
                    self.assert_refused(chest, InvalidEdit, {"index": 0}, chest.apply, value)
                    self.assert_refused(chest, InvalidEdit, {"index": 1}, chest.apply, ("put", "69", 1), value)

    def test_a_history_can_be_applied(self):
        chest = Chest(CASE)
        chest.apply(("put", "-0", 2), ("paint", "0-", "66", 2), ("take", "66", 1))
        for make in CLASSES:
            other = make(CASE)
            other.apply(*chest.history())
            self.assertEqual([other == chest, other.history()], [True, chest.history()])


class EqualityTest(ChestTest):

    def test_chests_are_equal_if_their_present_cases_are(self):
        chests = [make(CASE) for make in CLASSES]
        chests[1].put("88", 1)
        chests[1].undo()
        chests[2].apply(("take", "69", 1), ("put", "96", 1))
        for one in chests:
            for other in chests:
                self.assertIs(one == other, True)
                self.assertIs(one != other, False)
        changed = Chest(CASE)
        changed.put("88", 1)
        for chest in [*chests, Chest(Case(FONT)), Chest(Case(OTHER, CASE.plates))]:
            self.assertIs(chest == changed, False)
            self.assertIs(chest != changed, True)

    def test_values_of_another_kind(self):
        for make in CLASSES:
            chest = make(CASE)
            for value in [CASE, CASE.plates, CASE.text, None, True, [chest], Wants.none(FONT), *strange_values()]:
                if not isinstance(value, Chest):
                    self.assertIs(chest == value, False)
                    self.assertIs(value != chest, True)


class ManyEditsTest(ChestTest):

    def test_all_of_many_edits_are_undone(self):
        font = Font.digits()
        chest = Chest(Case(font))
        for at in range(40):
            for kind in all_kinds(font)[at:at + 8]:
                chest.put(kind, at + 1)
        full = chest.case
        many = len(chest.history())
        chest.undo(many)
        self.assertEqual(chest.case, Case(font))
        chest.redo(many)
        self.assertEqual([chest.case, len(chest.history())], [full, many])


if __name__ == "__main__":
    unittest.main()
