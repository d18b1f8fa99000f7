"""The table and the desk: promises 60 and 61."""

import random
import unittest

from hymnplates.books import is_safe, jokers
from hymnplates.cases import Case
from hymnplates.chests import Chest, GuardedChest
from hymnplates.desk import Desk, table
from hymnplates.errors import (InvalidKind, InvalidLine, InvalidNumber, InvalidRow, Lacking, OutOfRange, TooFew, TooMany)
from hymnplates.fonts import Font
from hymnplates.hanging import copies, hangs, shortage
from hymnplates.streets import longest_street
from hymnplates.uses import spare
from hymnplates.wants import Wants
from searches import small_cases
from support import CASE, FONT, MOST, PlatesTest, of, strange_values


def state(desk):
    """All that can be seen of the desk's chest, what can be redone included."""
    chest = desk.chest
    undone = 0
    while True:
        try:
            chest.explore(lambda inner: inner.redo(undone + 1))
        except OutOfRange:
            return [chest.case.text, chest.history(), chest.depth, undone]
        undone += 1


class TableTest(PlatesTest):

    def test_the_example_of_the_document(self):
        self.assertEqual(table(CASE), "06 1 069\n69 2 69\n8- 1 8")

    def test_counts_of_unlike_width(self):
        case = Case(FONT, [("8-", 7), ("69", 123), ("00", MOST), ("9-", 10)])
        self.assertEqual(table(case), "\n".join([f"00 {MOST} 0", "69" + " " * 29 + "123 69", "8-" + " " * 31 + "7 8",
                                                 "9-" + " " * 30 + "10 69"]))
        self.assertEqual(table(Case(FONT, [("06", 12), ("88", 3)])), "06 12 069\n88  3 8")

    def test_a_case_without_plates(self):
        self.assertEqual(table(case=Case(FONT)), "")


class LinesTest(PlatesTest):

    def test_the_examples_of_the_document(self):
        desk = Desk(CASE)
        self.assertEqual(desk.run("hang 6988", "copies 68", "try take 69 2", "spare 69 6", "put 69 1", "short 88"),
                         ["lack 8", "1", "ok", "2", "ok", "1"])
        self.assert_value_error(InvalidLine, "-", desk.execute, "-")
        self.assert_value_error(InvalidLine, "take 69 2 ", desk.execute, "take 69 2 ")

    def test_edits(self):
        desk = Desk(CASE)
        self.assertEqual(desk.run("put -8 2", "take 96 1", "paint 60 88 1", "undo", "redo", "undo 3", "redo 2"), ["ok"] * 7)
        self.assertEqual(desk.chest.history(), [("put", "8-", 2), ("take", "69", 1)])
        self.assertEqual(desk.chest.case.plates, (("06", 1), ("69", 1), ("8-", 3)))
        self.assertEqual(desk.execute("redo 1"), "ok")
        for line, error, value in [("undo 4", OutOfRange, 4), ("redo", OutOfRange, 1), ("redo 1", OutOfRange, 1),
                                   ("undo 0", OutOfRange, 0),
                                   ("take 06 1", TooFew, "06"), ("put 69 " + str(MOST), TooMany, "69"),
                                   ("put -- 1", InvalidKind, "--"),
                                   ("paint 69 6 1", InvalidKind, "6"), ("put 69 0", InvalidNumber, 0),
                                   ("take \n 1", InvalidKind, "\n"),
                                   (f"put 69 {MOST + 1}", InvalidNumber, MOST + 1), ("put zz 0", InvalidKind, "zz"),
                                   ("put 69 " + "9" * 41, InvalidNumber, int("9" * 41)), ("put 6\n9 1", InvalidKind, "6\n9"),
                                   ("undo " + "1" * 41, OutOfRange, int("1" * 41))]:
            before = state(desk)
            self.assert_value_error(error, value, desk.execute, line)
            self.assert_value_error(error, value, desk.execute, "try " + line)
            self.assertEqual(state(desk), before)

    def test_questions(self):
        desk = Desk(CASE)
        for line, told in [("hang 698", "yes"), ("hang 88", "lack 8"), ("hang -", "yes"), ("hang 6699", "lack 69"),
                           ("short 88", "1"),
                           ("short -", "0"), ("short 698", "0"), ("copies -", "any"), ("copies 8", "1"), ("copies 88", "0"),
                           ("spare 96 6", "2"), ("spare 8- 8", "0"), ("spare 00 8", "0"), ("street 1", "3"),
                           ("street 3", "4"),
                           ("safe 0 5", "yes"), ("safe 2 1", "yes"), ("safe 9 9", "no"), ("jokers 9 9", "11"),
                           ("jokers 0 0", "0"),
                           ("table", table(CASE)), ("text", CASE.text)]:
            self.assertEqual([desk.execute(line), desk(line), desk.execute("try " + line)], [told] * 3, line)
        self.assert_error(Lacking, {"lack": "8"}, desk.execute, "spare 69 88")
        self.assert_value_error(InvalidKind, "--", desk.execute, "spare -- 88")
        self.assert_value_error(InvalidKind, "-", desk.execute, "spare - -")
        self.assertEqual(Desk(Case(FONT)).execute("table"), "")
        self.assertEqual(Desk(Case(FONT)).execute("text"), "signs 0689\nturn 6 9")

    def test_numbers_beyond_the_bounds_are_errors_of_the_functions(self):
        desk = Desk(CASE)
        for number in [MOST + 1, 10 ** 40, int("9" * 41)]:
            for line in [f"street {number}", f"safe {number} 1", f"safe 1 {number}", f"jokers {number} 0",
                         f"jokers 0 {number}"]:
                self.assert_value_error(InvalidNumber, number, desk.execute, line)
        self.assert_value_error(InvalidNumber, 0, desk.execute, "street 0")
        self.assertEqual(desk.run(f"safe 1 {MOST}", f"safe {MOST} 0", f"street {MOST}"), ["yes", "yes", str(MOST - 1)])

    def test_against_the_functions(self):
        chance = random.Random(58)
        for case in small_cases(157, 48, 9):
            desk = Desk(case)
            row = "".join(chance.choice(case.font.signs) for _ in range(chance.randrange(6)))
            wants, word = Wants.of(case.font, row), row or "-"
            number, greatest, signs = shortage(case, wants)[0], copies(case, wants), shortage(case, wants)[1]
            self.assertEqual(desk.execute(f"hang {word}"), "yes" if hangs(case, wants) else f"lack {signs}")
            self.assertEqual(desk.execute(f"short {word}"), str(number))
            self.assertEqual(desk.execute(f"copies {word}"), "any" if greatest is None else str(greatest[0]))
            for kind in case.kinds:
                if hangs(case, wants):
                    self.assertEqual(desk.execute(f"spare {kind[::-1]} {word}"), str(spare(case, wants, kind)))
            for last, k in [(0, 0), (3, 2), (9, 1), (MOST, MOST)]:
                self.assertEqual(desk.execute(f"safe {last} {k}"), "yes" if is_safe(case, last, k) else "no")
                self.assertEqual(desk.execute(f"jokers {last} {k}"), str(jokers(case, last, k)[0]))
            self.assertEqual([desk.execute(f"street {first}") for first in (1, 5, MOST)],
                             [str(longest_street(case, first)) for first in (1, 5, MOST)])
            self.assertEqual([desk.execute("table"), desk.execute("text")], [table(case), case.text])

    def test_a_row_with_another_character_comes_before_other_errors(self):
        desk = Desk(CASE)
        for row in ["x", "6x", "6-", "--", "-6", "1", ".", "6\n", "\n", "A" * 3000]:
            for line in [f"hang {row}", f"short {row}", f"copies {row}", f"spare 69 {row}", f"spare -- {row}",
                         f"try spare zz {row}"]:
                self.assert_value_error(InvalidRow, row, desk.execute, line)

    def test_the_desk_is_called_with_a_line(self):
        desk = Desk(case=CASE)
        self.assertEqual([desk("put 88 1"), desk("hang 88")], ["ok", "yes"])
        self.assertEqual(desk.execute(line="hang 88"), "yes")
        self.assert_value_error(InvalidLine, None, desk, None)

    def test_the_chest_of_the_desk(self):
        desk = Desk(CASE)
        chest = desk.chest
        self.assertIs(type(chest), Chest)
        self.assertIs(desk.chest, chest)
        desk.execute("put 88 2")
        self.assertEqual(chest.case["88"], 2)
        chest.undo()
        self.assertEqual([desk.execute("redo"), desk.execute("hang 888")], ["ok", "yes"])
        self.assertEqual(Desk(CASE).chest.history(), [])
        self.assertNotIsInstance(chest, GuardedChest)

    def test_run(self):
        desk = Desk(CASE)
        self.assertEqual([desk.run(), desk.run("table")], [[], [table(CASE)]])
        self.assert_value_error(TooFew, "88", desk.run, "put 88 2", "take 88 1", "take 88 2", "put 88 5")
        self.assertEqual(desk.chest.history(), [("put", "88", 2), ("take", "88", 1)])
        self.assert_value_error(InvalidLine, "puts 88 1", desk.run, "put 88 1", "puts 88 1", "put 88 1")
        self.assertEqual(desk.chest.case["88"], 2)
        told = desk.run("undo", "redo")
        told.clear()
        self.assertEqual(desk.run("undo", "redo"), ["ok", "ok"])


class WrongLinesTest(PlatesTest):

    WRONG = ["", " ", "  ", "-", "try", "try ", " try", "puts 69 1", "put", "put 69", "put 69 1 1", "put  69 1",
             " put 69 1", "put 69 1 ",
             "put 69  1", "put 69 -1", "put 69 +1", "put 69 01", "put 69 00", "put 69 1.0", "put 69 x", "put 69 -",
             "put 69 1\n",
             "put 69 " + "1" * 42, "put 69 0" + "1" * 40, "put 69 " + "0" * 41, "PUT 69 1", "Put 69 1", "put\n69\n1",
             "put\t69 1",
             "take 69", "take 69 1 2", "paint 69 1", "paint 69 88", "paint 69 88 x", "paint 69 88 1 1", "undo ",
             "undo x", "undo 1 1",
             "undo 01", "undo -1", "undo -", "redo ", "redo 1 2", "redo one", "hang", "hang ", "hang 6 9", "hang  6",
             "short", "short 6 9",
             "copies", "copies 6 9", "spare", "spare 69", "spare 69 6 6", "spare  69", "spare 69 ", "street",
             "street x", "street 1 2",
             "street -", "street 00", "safe 1", "safe", "safe 1 2 3", "safe x 1", "safe 1 x", "safe 1 01",
             "safe 1 " + "9" * 42,
             "jokers 1", "jokers", "jokers 1 2 3", "jokers - 1", "table ", "table 1", "table -", " table", "text 1",
             "text ", "text\n",
             "history", "apply", "attempt", "explore", "depth", "case", "run", "execute", "N", "KIND", "hang\n6", "x" * 4000]

    def test_wrong_lines(self):
        desk = Desk(CASE)
        desk.run("put 88 1", "put 88 1", "undo")
        before = state(desk)
        for line in self.WRONG:
            with self.subTest(line):
                for action in [desk.execute, desk, desk.run]:
                    self.assert_value_error(InvalidLine, line, action, line)
                    self.assert_value_error(InvalidLine, "try " + line, action, "try " + line)
                    self.assert_value_error(InvalidLine, "try try " + line, action, "try try " + line)
        self.assertEqual(state(desk), before)

    def test_try_in_try(self):
        desk = Desk(CASE)
        for line in ["try try table", "try try", "try try try", "try  table", "try table ", "try table try", "table try"]:
            self.assert_value_error(InvalidLine, line, desk.execute, line)

    def test_any_other_value_is_no_line(self):
        desk = Desk(CASE)
        for value in strange_values() + [b"table", ["table"], ("table",), ["put", "69", "1"], {"table": 1}, 0, 1.0]:
            self.assert_value_error(InvalidLine, value, desk.execute, value)
            self.assert_value_error(InvalidLine, value, desk, value)
            self.assert_value_error(InvalidLine, value, desk.run, value)


class TriesTest(PlatesTest):

    LINES = ["put 88 3", "take 69 1", "paint 69 00 2", "undo", "undo 2", "redo", "redo 1", "hang 88", "short 888",
             "copies 6", "spare 69 6",
             "street 1", "safe 3 1", "jokers 9 9", "table", "text", "take 88 9", "undo 9", "redo 9", "spare 69 8888",
             "put zz 1"]

    def told(self, action, line):
        try:
            return action(line)
        except (TooFew, OutOfRange, Lacking, InvalidKind) as error:
            return [type(error), vars(error)]

    def test_a_line_that_is_tried_changes_nothing(self):
        for line in self.LINES:
            desk, other = Desk(CASE), Desk(CASE)
            for one in (desk, other):
                one.run("put 00 1", "put 88 1", "take 06 1", "undo", "undo")
            before = state(desk)
            told = self.told(desk.execute, "try " + line)
            self.assertEqual(state(desk), before)
            self.assertEqual(told, self.told(other.execute, line))

    def test_long_runs_against_a_chest(self):
        for seed in range(6):
            chance = random.Random(seed)
            desk, chest = Desk(CASE), Chest(CASE)
            for _ in range(80):
                kind, other = chance.choice(["00", "96", "-8"]), chance.choice(["88", "6-"])
                count = chance.choice([1, 1, 2, MOST])
                line, action = chance.choice([
                    (f"put {kind} {count}", lambda inner: inner.put(kind, count)),
                    (f"take {kind} {count}", lambda inner: inner.take(kind, count)),
                    (f"paint {kind} {other} {count}", lambda inner: inner.paint(kind, other, count)),
                    ("undo", lambda inner: inner.undo()),
                    (f"undo {count}", lambda inner: inner.undo(count)), (f"redo {count}", lambda inner: inner.redo(count))])
                tried = chance.randrange(3) == 0
                found = []
                for step in [lambda: desk.execute("try " + line if tried else line),
                             lambda: chest.explore(action) if tried else action(chest)]:
                    try:
                        step()
                        found.append(None)
                    except (TooFew, TooMany, OutOfRange) as error:
                        found.append([type(error), vars(error)])
                self.assertEqual(found[0], found[1])
                self.assertEqual([desk.chest.case, desk.chest.history()], [chest.case, chest.history()])


if __name__ == "__main__":
    unittest.main()
