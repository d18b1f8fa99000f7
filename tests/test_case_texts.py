"""The text of a case, and reading it: promise 20."""

import itertools
import unittest

from hymnplates.cases import Case
from hymnplates.errors import InvalidText
from hymnplates.fonts import Font, all_kinds
from support import FONT, PlatesTest, strange_values

MOST = 10 ** 30


class ReadingTest(PlatesTest):

    def assert_wrong(self, line, text):
        with self.subTest(text):
            self.assert_error(InvalidText, {"line": line}, Case.read, text)

    def test_examples_of_the_document(self):
        self.assert_wrong(2, "signs 01\nplates 01 1\n")
        self.assert_wrong(1, "signs 01\nplates 10 1")
        self.assert_wrong(1, "signs 01\nplates 01 1 1")
        self.assert_wrong(0, "-")
        self.assertEqual(Case.read("signs 01").plates, ())

    def test_texts_are_read_as_what_they_are_of(self):
        digits = Font.digits()
        cases = [Case(FONT), Case(Font("zb0")), Case(digits), Case(FONT, [("00", 1), ("8-", MOST)]),
                 Case(digits, [(kind, MOST - at) for at, kind in enumerate(all_kinds(digits))]),
                 Case(Font("9a6", [("6", "9"), ("a", "a")]), [("66", 10), ("a-", 100), ("99", 9)])]
        for case in cases:
            self.assertEqual(Case.read(case.text), case)
            self.assertEqual(Case.read(text=case.text).text, case.text)

    def test_lines_stand_in_their_order(self):
        case = Case(Font("9a6", [("6", "9"), ("a", "a")]), [("66", 10), ("-a", 100), ("69", 9)])
        self.assertEqual(case.text, "signs 9a6\nturn 9 6\nturn a a\nplates 96 9\nplates a- 100\nplates 66 10")
        self.assertEqual(Case(FONT).text, "signs 0689\nturn 6 9")
        self.assertEqual(Case(Font("10")).text, "signs 10")

    def test_values_that_are_no_strings(self):
        for value in strange_values():
            if not isinstance(value, str):
                with self.subTest(value=value):
                    self.assert_error(InvalidText, {"line": 0}, Case.read, value)

    def test_wrong_first_lines(self):
        for line in ["", " ", "signs", "signs ", "signs 0", "signs 00", "signs 0123456789a", "signs 01 ", " signs 01",
                     "signs  01", "signs 0 1", "signs 01 2", "sign 01", "Signs 01", "signs 0A", "signs 0-", "signs01",
                     "01", "turn 0 0", "plates 01 1", "signs -", "signs \n01", "x" * 4000, "signs " + "0" * 4000]:
            self.assert_wrong(0, line)
            self.assert_wrong(0, line + "\nplates 01 1")
            self.assert_wrong(0, "\n" + line)

    def test_wrong_turns(self):
        for line in ["turn", "turn ", "turn 0", "turn 0 ", "turn 0 0 0", "turn 0 0 ", " turn 0 0", "turn  0 0", "turn 00",
                     "turn 9 6", "turn 0 1", "turn 1 1", "turn 0 -", "turn 06 9", "Turn 0 0", "turns 0 0", "0 0", "6 9"]:
            self.assert_wrong(1, "signs 0689\n" + line)
            self.assert_wrong(1, "signs 0689\n" + line + "\nturn 6 9\nplates 00 1")

    def test_turns_out_of_order_or_twice(self):
        start = "signs 0689\nturn 6 9\n"
        for line in ["turn 0 0", "turn 6 9", "turn 9 6", "turn 6 6", "turn 9 9", "turn 0 6", "turn 6 8", "turn 0 8"]:
            self.assert_wrong(2, start + line)
            self.assert_wrong(2, start + line + "\nplates 00 1")
        self.assertEqual(Case.read(start + "turn 8 8").font.turns, (("6", "9"), ("8", "8")))
        self.assert_wrong(3, start + "turn 8 8\nturn 0 0")
        self.assert_wrong(2, "signs 0689\nplates 00 1\nturn 6 9")
        self.assert_wrong(1, "signs 01\nsigns 01")

    def test_wrong_plates(self):
        for line in ["plates", "plates 00", "plates 00 ", "plates 00 1 1", "plates 00 1 ", " plates 00 1", "plates  00 1",
                     "plates 00  1", "plate 00 1", "Plates 00 1", "00 1", "plates 60 1", "plates -0 1", "plates -- 1",
                     "plates 0 1", "plates 000 1", "plates 01 1", "plates 1 00", "plates 00\n1", "plates 0 0 1"]:
            self.assert_wrong(1, "signs 068\n" + line)
            self.assert_wrong(1, "signs 068\n" + line + "\nplates 88 1")

    def test_wrong_counts(self):
        for word in ["0", "00", "01", "-1", "+1", "-0", "1_0", "1.", "1e3", "x", "1x", "x1", "0x1", str(MOST + 1),
                     "9" * 31, "1" + "0" * 31, "0" + str(MOST), "9" * 3900, "9" * 5000, "0" * 5000, "1,000", "\u0661",
                     "\u00b2", "True", "None"]:
            self.assert_wrong(2, "signs 068\nplates 00 1\nplates 06 " + word)
        for count in [1, 9, 10, 100, MOST - 1, MOST]:
            self.assertEqual(Case.read("signs 068\nplates 06 " + str(count)).plates, (("06", count),))

    def test_kinds_out_of_order_or_twice(self):
        start = "signs 068\nplates 06 1\nplates 68 2\n"
        for kind in ["00", "06", "08", "0-", "66", "68"]:
            self.assert_wrong(3, start + f"plates {kind} 1")
            self.assert_wrong(3, start + f"plates {kind} 1\nplates 8- 1")
        for kind in ["6-", "88", "8-"]:
            self.assertEqual(Case.read(start + f"plates {kind} 1").kinds, ("06", "68", kind))

    def test_empty_lines(self):
        text = "signs 068\nturn 0 0\nplates 06 1\nplates 68 2"
        lines = text.split("\n")
        for at in range(len(lines) + 1):
            self.assert_wrong(at, "\n".join(lines[:at] + [""] + lines[at:]))
        self.assert_wrong(4, text + "\n")
        self.assert_wrong(4, text + "\n\n")
        self.assert_wrong(1, "signs 01\n")
        self.assert_wrong(0, "\nsigns 01")

    def test_only_newlines_end_lines(self):
        for end in ["\r", "\r\n", "\t", "\x0b", "\x0c", "\u2028", " "]:
            self.assert_wrong(0, "signs 01" + end + "plates 01 1")
            self.assert_wrong(0, "signs 01" + end)
            self.assert_wrong(1, "signs 01\nplates 01 1" + end)
            self.assert_wrong(1, "signs 01\nplates " + end + "01 1")

    def test_the_first_wrong_line_is_told(self):
        self.assert_wrong(2, "signs 01\nplates 01 1\nwrong\nwrong")
        self.assert_wrong(1, "signs 01\nturn 1 0\nplates 01 0")


class AllTextsTest(PlatesTest):
    """All texts of small cases against all short lists of lines."""

    def texts(self):
        for signs in ["01", "10"]:
            one, other = signs
            pairs = [[], [(one, one)], [(other, other)], [(one, one), (other, other)], [(one, other)]]
            for turns in pairs:
                font = Font(signs, turns)
                for counts in itertools.product([0, 2], repeat=5):
                    plates = [(kind, count) for kind, count in zip(all_kinds(font), counts) if count]
                    yield Case(font, plates).text

    def test_just_the_texts_of_cases_are_accepted(self):
        texts = set(self.texts())
        # Each text without its last lines is a text of a case, too; so only the texts are prefixes.
        words = ["", "signs 01", "signs 10", "turn 0 0", "turn 0 1", "turn 1 0", "turn 1 1", "plates 00 2", "plates 01 2",
                 "plates 10 2", "plates 0- 2", "plates 1- 2", "plates 11 2", "plates 11 02"]
        told = {"read": 0, "wrong": 0}
        for first in ["signs 01", "signs 10", "turn 0 0", ""]:
            for more in range(4):
                for lines in itertools.product(words, repeat=more):
                    lines = (first,) + lines
                    right = 0
                    while right < len(lines) and "\n".join(lines[:right + 1]) in texts:
                        right += 1
                    told["read" if right == len(lines) else "wrong"] += 1
                    self.check(lines, right)
        self.assertGreater(min(told.values()), 100)

    def check(self, lines, right):
        text = "\n".join(lines)
        if right == len(lines):
            self.assertEqual(Case.read(text).text, text)
        else:
            with self.assertRaises(InvalidText) as caught:
                Case.read(text)
            self.assertEqual(caught.exception.line, right)


if __name__ == "__main__":
    unittest.main()
