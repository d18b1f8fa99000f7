"""Fonts, kinds of plates and sets of signs: promises 10 and 11."""

import itertools
import unittest

from hymnplates.cases import Case
from hymnplates.errors import InvalidFont, InvalidKind, InvalidSigns, InvalidTurns, OtherFont, UnknownSign
from hymnplates.fonts import Font, all_kinds, all_sets, check_fonts, written_set
from support import FONT, PlatesTest, nested, strange_values


class ExamplesTest(PlatesTest):

    def test_examples_of_the_document(self):
        font = Font("0689", [("6", "9"), ("8", "8")])
        told = [font.turned("6"), font.turned("0"), font.kept("86"), font.shown("-6"), len(font), "9" in font]
        self.assertEqual(told, ["9", None, "68", "69", 4, True])
        self.assert_value_error(InvalidFont, "0011", Font, "0011")
        turns = [("6", "9")]
        self.assert_value_error(InvalidTurns, turns, Font, "06", turns)
        self.assert_value_error(InvalidKind, "--", font.kept, "--")


class SignsTest(PlatesTest):

    def test_fonts_of_two_to_ten_signs(self):
        for signs in ["01", "10", "az", "z0a9", "987654321", "0123456789", "abcdefghij"]:
            with self.subTest(signs):
                font = Font(signs)
                self.assertEqual([font.signs, len(font), font.turns], [signs, len(signs), ()])

    def test_other_strings_are_no_fonts(self):
        for signs in ["", "0", "00", "010", "0123456789a", "abcdefghijk", "0A", "AB", "0-", "0.", "0 1", "01\n", "-"]:
            with self.subTest(signs):
                self.assert_value_error(InvalidFont, signs, Font, signs)

    def test_letters_and_digits_beyond_ascii_are_no_signs(self):
        for signs in ["0\u00b2", "a\u00e4", "\u0660\u0661"]:
            with self.subTest(signs):
                self.assert_value_error(InvalidFont, signs, Font, signs)

    def test_any_other_value_is_no_font(self):
        for value in strange_values() + [[], (), {}, ["0", "1"], ("0", "1"), {"0": 1, "1": 2}]:
            with self.subTest(value=value):
                self.assert_value_error(InvalidFont, value, Font, value)

    def test_the_most_signs(self):
        self.assertEqual([Font.MAX_SIGNS, FONT.MAX_SIGNS], [10, 10])

    def test_the_digits(self):
        font = Font.digits()
        self.assertEqual(font.signs, "0123456789")
        self.assertEqual(font.turns, (("0", "0"), ("1", "1"), ("6", "9"), ("8", "8")))
        turned = [font.turned(sign) for sign in font.signs]
        self.assertEqual(turned, ["0", "1", None, None, None, None, "9", None, "8", "6"])

    def test_a_font_of_signs(self):
        self.assertEqual(Font.of("8", "0", "b"), Font("80b"))
        self.assertEqual(Font.of("8", "0", "b").turns, ())
        self.assertEqual(Font.of(*"0123456789").signs, "0123456789")

    def test_a_font_of_signs_that_form_no_font(self):
        for signs in ["", "0", "00", "010", "0123456789a", "0A", "0-", "0\n"]:
            with self.subTest(signs):
                self.assert_value_error(InvalidFont, signs, Font.of, *signs)

    def test_a_font_of_other_values(self):
        for value in [True, None, 0, -1, "", "12", ["1"], ("1",), {"1": 1}, nested(19), FONT, Case(FONT)]:
            # "0" twice: that one value is no sign is told before the string that they form.
            for signs in [(value,), ("0", value), (value, "0"), ("0", "0", value)]:
                with self.subTest(signs=signs), self.assertRaises(InvalidFont) as caught:
                    Font.of(*signs)
                self.assertEqual(caught.exception.value, signs)
                self.assertIs(type(caught.exception.value), tuple)

    def test_signs_in_a_font(self):
        self.assertEqual([sign for sign in "0123456789abz-. " if sign in FONT], ["0", "6", "8", "9"])

    def test_other_values_in_a_font(self):
        for value in strange_values() + ["", "06", "0689", "-", "a", "7", [], (), {}]:
            with self.subTest(value=value):
                self.assertIs(value in FONT, False)
        self.assertIs("6" in FONT, True)

    def test_a_font_cannot_be_changed(self):
        for name in ["signs", "turns"]:
            with self.assertRaises(AttributeError):
                setattr(FONT, name, "01")


class TurnsTest(PlatesTest):

    def test_turns_are_kept_in_their_order(self):
        kept = (("0", "0"), ("6", "9"), ("8", "8"))
        for turns in itertools.permutations([("0", "0"), ("9", "6"), ("8", "8")]):
            for passed in [turns, list(turns), [(other, one) for one, other in turns]]:
                with self.subTest(turns=passed):
                    font = Font("0689", passed)
                    self.assertEqual(font.turns, kept)
                    self.assertEqual(font, Font("0689", kept))

    def test_turns_are_ordered_as_the_font_is(self):
        font = Font("9860", [("8", "8"), ("6", "9"), ("0", "0")])
        self.assertEqual(font.turns, (("9", "6"), ("8", "8"), ("0", "0")))
        self.assertEqual(Font("ba10", [("0", "b"), ("1", "a")]).turns, (("b", "0"), ("a", "1")))

    def test_what_signs_show_on_their_heads(self):
        font = Font("0689b", [("9", "6"), ("8", "8")])
        self.assertEqual([font.turned(sign) for sign in font.signs], [None, "9", "8", "6", None])

    def test_other_values_have_no_head(self):
        for value in strange_values() + ["", "06", "66", "-", "a", "7", [], (), {}]:
            with self.subTest(value=value):
                self.assert_value_error(UnknownSign, value, FONT.turned, value)

    def test_lists_of_wrong_pairs(self):
        wrong = [
            [("0", "6"), ("6", "9")], [("0", "6"), ("9", "0")], [("0", "0"), ("0", "0")], [("6", "9"), ("9", "6")],
            [("6", "9"), ("6", "6")], [("0", "0"), ("0", "8")], [("0", "8"), ("8", "8")], [("6", "9"), ("6", "9")],
            [("0", "1")], [("1", "0")], [("0", "-")], [("-", "-")], [("0", "")], [("06", "9")], [("0", "68")],
            [["6", "9"]], ["69"], ["6", "9"], ("6", "9"), [("6", "9", "0")], [("6",)], [()], [("6", None)],
            [(True, "6")], [(0, 6)], [("6", ["9"])], [("6", ("9",))], [({}, "9")], [{"6": "9"}], [("0", "0"), None],
        ]
        for turns in wrong:
            for passed in [turns, tuple(turns)]:
                with self.subTest(turns=passed):
                    self.assert_value_error(InvalidTurns, passed, Font, "0689", passed)

    def test_any_other_value_is_no_list_of_turns(self):
        for value in strange_values() + ["", {}, "69", "0", {("6", "9"): True}, {"6": "9"}]:
            with self.subTest(value=value):
                self.assert_value_error(InvalidTurns, value, Font, "0689", value)

    def test_the_signs_are_examined_first(self):
        self.assert_value_error(InvalidFont, "00", Font, "00", None)
        self.assert_value_error(InvalidFont, None, Font, turns=[("x", "x")], signs=None)
        self.assert_value_error(InvalidTurns, None, Font, "01", None)

    def test_arguments_by_name(self):
        font = Font(turns=[("6", "9")], signs="0689")
        self.assertEqual(font, FONT)
        self.assertEqual([font.turned(sign="6"), font.shown(kind="-6"), font.kept(kind="-6")], ["9", "69", "6-"])

    def test_what_is_passed_is_copied(self):
        turns = [("9", "6"), ("8", "8")]
        font = Font("0689", turns)
        self.assertEqual(turns, [("9", "6"), ("8", "8")])
        turns.append(("0", "0"))
        turns[0] = ("6", "6")
        self.assertEqual([font.turns, font.turned("6"), font.turned("0")], [(("6", "9"), ("8", "8")), "9", None])

    def test_an_error_changes_nothing_and_keeps_the_very_list(self):
        turns = [("6", "9"), ("6", "6")]
        self.assert_value_error(InvalidTurns, turns, Font, "0689", turns)
        self.assertEqual(turns, [("6", "9"), ("6", "6")])


class EqualityTest(PlatesTest):

    def test_equal_fonts(self):
        self.assertTrue(Font("069", [("6", "9")]) == Font("069", (("9", "6"),)))
        self.assertFalse(Font("069", [("6", "9")]) != Font("069", (("9", "6"),)))

    def test_other_fonts(self):
        fonts = [Font("069"), Font("069", [("6", "9")]), Font("069", [("0", "0"), ("6", "9")]), Font("096"), Font("06"),
                 Font("0691"), Font("069", [("0", "0")]), Font("069", [("6", "6")])]
        for one, other in itertools.combinations(fonts, 2):
            with self.subTest(one=one.signs, other=other.signs):
                self.assertIs(one == other, False)
                self.assertIs(one != other, True)

    def test_values_of_another_kind(self):
        for value in ["0689", ("0689", (("6", "9"),)), None, True, 0, [], {}, Case(FONT)]:
            with self.subTest(value=value):
                self.assertIs(FONT == value, False)
                self.assertIs(value != FONT, True)

    def test_fonts_that_must_not_differ(self):
        check_fonts(Font("069", [("6", "9")]), Font("069", [("9", "6")]))
        self.assert_error(OtherFont, {}, check_fonts, Font("069"), Font("069", [("6", "9")]))


class KindsTest(PlatesTest):

    def test_both_orders_are_kept_as_one(self):
        for one, other in ["00", "06", "68", "89", "09", "0-", "6-", "9-"]:
            with self.subTest(kind=one + other):
                self.assertEqual([FONT.kept(one + other), FONT.kept(other + one)], [one + other, one + other])

    def test_the_order_is_the_one_of_the_font(self):
        font = Font("b90")
        self.assertEqual([font.kept(kind) for kind in ["9b", "0b", "09", "-0", "99"]], ["b9", "b0", "90", "0-", "99"])

    def test_the_order_of_kinds(self):
        self.assertEqual(all_kinds(Font("ba")), ["bb", "ba", "b-", "aa", "a-"])
        kinds = ["00", "06", "08", "09", "0-", "66", "68", "69", "6-", "88", "89", "8-", "99", "9-"]
        self.assertEqual(all_kinds(FONT), kinds)
        self.assertEqual(len(all_kinds(Font.digits())), 65)

    def test_just_the_kinds_are_kept(self):
        letters = "0123456789ab-AZ .\n"
        kinds = {FONT.kept(one + other) for one in "0689-" for other in "0689-" if (one, other) != ("-", "-")}
        self.assertEqual(sorted(kinds), sorted(all_kinds(FONT)))
        for one, other in itertools.product(letters, letters):
            if one + other == "--" or one not in "0689-" or other not in "0689-":
                with self.subTest(kind=one + other):
                    self.assert_value_error(InvalidKind, one + other, FONT.kept, one + other)
                    self.assert_value_error(InvalidKind, one + other, FONT.shown, one + other)

    def test_any_other_value_is_no_kind(self):
        for value in strange_values() + ["", "0", "-", "060", "06 ", " 06", "---", ("0", "6"), ["0", "6"], {}, []]:
            with self.subTest(value=value):
                self.assert_value_error(InvalidKind, value, FONT.kept, value)
                self.assert_value_error(InvalidKind, value, FONT.shown, value)

    def test_what_kinds_show(self):
        font = Font("b0689", [("6", "9"), ("8", "8")])
        shown = {"00": "0", "0-": "0", "06": "069", "66": "69", "6-": "69", "69": "69", "9-": "69", "99": "69",
                 "8-": "8", "88": "8", "89": "689", "b8": "b8", "b6": "b69", "b9": "b69", "b-": "b", "bb": "b"}
        for kind, signs in shown.items():
            with self.subTest(kind):
                self.assertEqual([font.shown(kind), font.shown(kind[::-1])], [signs, signs])

    def test_a_kind_shows_up_to_four_signs(self):
        font = Font("dcba", [("a", "d"), ("b", "c")])
        self.assertEqual([font.shown("ab"), font.shown("da"), font.shown("a-")], ["dcba", "da", "da"])
        self.assertEqual(Font("dcba").shown("ab"), "ba")


class SetsTest(PlatesTest):

    def test_sets_are_written_ascending(self):
        font = Font("b90")
        written = [written_set(font, signs) for signs in ["", "0", "0b", "9b", "09b", "b90"]]
        self.assertEqual(written, ["", "0", "b0", "b9", "b90", "b90"])

    def test_any_other_value_is_no_set(self):
        for value in strange_values() + ["00", "060", "1", "-", "0-", "06891", "0 6", [], (), {}, ["0", "6"]]:
            with self.subTest(value=value):
                self.assert_value_error(InvalidSigns, value, written_set, FONT, value)

    def test_shorter_sets_are_listed_first(self):
        self.assertEqual(all_sets(Font("b90")), ["", "b", "9", "0", "b9", "b0", "90", "b90"])
        sets = all_sets(Font.digits())
        self.assertEqual(sets, sorted(sets, key=lambda signs: (len(signs), signs)))
        self.assertEqual(len(set(sets)), 1024)

    def test_every_list_is_new(self):
        all_sets(FONT).clear()
        all_kinds(FONT).clear()
        self.assertEqual([len(all_sets(FONT)), len(all_kinds(FONT))], [16, 14])


if __name__ == "__main__":
    unittest.main()
