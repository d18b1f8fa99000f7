"""Wants, their counts and their sums: promise 13."""

import itertools
import unittest

from hymnplates.cases import Case
from hymnplates.errors import InvalidNumber, InvalidRow, InvalidSigns, InvalidWants, OtherFont, UnknownSign
from hymnplates.fonts import Font, all_sets
from hymnplates.wants import Wants
from support import FONT, MOST, OTHER, PlatesTest, nested, no_numbers, strange_values

WANTS = Wants.of(FONT, "6090")


class ExamplesTest(PlatesTest):

    def test_examples_of_the_document(self):
        wants = Wants.of(Font("0689"), "6090")
        told = [wants.counts, wants.total, wants["8"], wants.want("60"), (wants * 2).counts]
        self.assertEqual(told, [{"0": 2, "6": 1, "9": 1}, 4, 0, 3, {"0": 4, "6": 2, "9": 2}])
        counts = {"0": -1}
        self.assert_value_error(InvalidWants, counts, Wants, Font("01"), counts)


class CountsTest(PlatesTest):

    def test_what_wants_tell(self):
        wants = Wants(FONT, {"9": 3, "0": 10 ** 99})
        self.assertEqual([wants.font, wants.total], [FONT, 10 ** 99 + 3])
        self.assertEqual([wants[sign] for sign in FONT.signs], [10 ** 99, 0, 0, 3])

    def test_counts_are_ascending_and_without_zeros(self):
        for signs in itertools.permutations("0689"):
            wants = Wants(FONT, {sign: "0689".index(sign) for sign in signs})
            self.assertEqual(list(wants.counts.items()), [("6", 1), ("8", 2), ("9", 3)])
        self.assertEqual(list(Wants(Font("ba0"), {"0": 1, "a": 2, "b": 3}).counts), ["b", "a", "0"])

    def test_wants_without_any_sign(self):
        for wants in [Wants.none(FONT), Wants(FONT, {}), Wants(FONT, {"0": 0, "9": 0}), Wants.of(FONT, "")]:
            self.assertEqual([wants.counts, wants.total, wants["0"], wants.want("0689")], [{}, 0, 0, 0])
            self.assertIs(bool(wants), False)
            self.assertEqual(wants, Wants.none(FONT))

    def test_truth(self):
        for counts in [{"0": 1}, {"9": 10 ** 99}, {"0": 0, "6": 1}]:
            self.assertIs(bool(Wants(FONT, counts)), True)

    def test_wrong_counts(self):
        wrong = [{"0": -1}, {"0": True}, {"0": False}, {"0": None}, {"0": "1"}, {"0": 1.0}, {"0": [1]}, {"0": (1,)},
                 {"0": {}}, {"1": 1}, {"06": 1}, {"": 1}, {0: 1}, {None: 1}, {("0",): 1}, {"-": 1}, {"x": 0},
                 {"0": 1, "6": -10 ** 60}, {"0": 1, "x": 1}, {True: 1}, {"0": nested(20)}, {"0": WANTS}]
        for counts in wrong:
            with self.subTest(counts=counts):
                self.assert_value_error(InvalidWants, counts, Wants, FONT, counts)

    def test_any_other_value_is_no_counts(self):
        for value in strange_values() + ["", "0", [], (), [("0", 1)], (("0", 1),)]:
            if value != {"0": 1}:
                with self.subTest(value=value):
                    self.assert_value_error(InvalidWants, value, Wants, FONT, value)

    def test_counts_of_other_values(self):
        for value in strange_values() + ["", "06", "1", "-", [], (), {}, ("0",)]:
            with self.subTest(value=value):
                self.assert_value_error(UnknownSign, value, lambda: WANTS[value])

    def test_what_is_passed_and_returned_is_copied(self):
        counts = {"0": 2, "6": 1}
        wants = Wants(FONT, counts)
        self.assertEqual(counts, {"0": 2, "6": 1})
        counts["0"] = 5
        counts["9"] = 1
        wants.counts["0"] = 7
        wants.counts.clear()
        self.assertEqual([wants.counts, wants.total, wants["9"]], [{"0": 2, "6": 1}, 3, 0])

    def test_wants_cannot_be_changed(self):
        for name in ["font", "counts", "total"]:
            with self.assertRaises(AttributeError):
                setattr(WANTS, name, {})
        with self.assertRaises(TypeError):
            WANTS["0"] = 1

    def test_wants_are_not_iterated_over(self):
        with self.assertRaises(TypeError):
            list(WANTS)

    def test_arguments_by_name(self):
        self.assertEqual(Wants(counts={"0": 2, "6": 1, "9": 1}, font=FONT), WANTS)
        self.assertEqual(Wants.of(row="0069", font=FONT), WANTS)
        self.assertEqual(Wants.none(font=FONT).want(signs="0"), 0)
        self.assertIs(WANTS.is_within(other=WANTS), True)


class RowsTest(PlatesTest):

    def test_rows_are_counted(self):
        for length in range(5):
            for row in itertools.product("0689", repeat=length):
                wants = Wants.of(FONT, "".join(row))
                self.assertEqual(wants.counts, {sign: row.count(sign) for sign in "0689" if sign in row})
                self.assertEqual(wants.total, length)
        self.assertEqual(Wants.of(FONT, "9" * 4000).counts, {"9": 4000})

    def test_other_rows(self):
        for row in ["1", "01", "06-", "-", " ", "0 6", "06\n", "0689x", "\n", ".", "0" * 3999 + "1"]:
            with self.subTest(row=row):
                self.assert_value_error(InvalidRow, row, Wants.of, FONT, row)

    def test_any_other_value_is_no_row(self):
        for value in strange_values() + [[], (), {}, ["0", "6"], ("0", "6")]:
            if value != "0" * 4000:
                with self.subTest(value=value):
                    self.assert_value_error(InvalidRow, value, Wants.of, FONT, value)


class WantOfSetsTest(PlatesTest):

    def test_wants_of_sets(self):
        wants = Wants(FONT, {"0": 1, "6": 10, "8": 100, "9": 10 ** 99})
        for signs in all_sets(FONT):
            for order in itertools.permutations(signs):
                self.assertEqual(wants.want("".join(order)), sum(wants[sign] for sign in signs))

    def test_any_other_value_is_no_set(self):
        for value in strange_values() + ["00", "1", "-", "0-", "06891", [], (), {}, ["0"], ("0",)]:
            with self.subTest(value=value):
                self.assert_value_error(InvalidSigns, value, WANTS.want, value)


class SumsTest(PlatesTest):

    def test_sums(self):
        for one, other in itertools.product(["", "0", "6699", "0689", "8888"], repeat=2):
            both = Wants.of(FONT, one) + Wants.of(FONT, other)
            self.assertEqual(both, Wants.of(FONT, one + other))
            self.assertEqual(both.total, len(one + other))

    def test_multiples(self):
        for number in [0, 1, 2, 7, MOST - 1, MOST]:
            self.assertEqual((WANTS * number).counts, {"0": 2 * number, "6": number, "9": number} if number else {})
        self.assertEqual((WANTS * MOST * MOST * MOST * MOST)["0"], 2 * MOST ** 4)

    def test_any_other_value_does_not_multiply(self):
        for value in no_numbers(0, MOST) + [WANTS]:
            with self.subTest(value=value):
                self.assert_value_error(InvalidNumber, value, lambda: WANTS * value)

    def test_neither_wants_change(self):
        one, other = Wants.of(FONT, "06"), Wants.of(FONT, "69")
        self.assertEqual([(one + other).total, (one * 3).total], [4, 6])
        self.assertEqual([one.counts, other.counts], [{"0": 1, "6": 1}, {"6": 1, "9": 1}])
        changed = one
        changed += other
        changed *= 2
        self.assertEqual([changed.total, one.total], [8, 2])

    def test_wants_within_others(self):
        rows = ["", "0", "6", "06", "066", "0689", "99"]
        for one, other in itertools.product(rows, repeat=2):
            within = all(one.count(sign) <= other.count(sign) for sign in "0689")
            self.assertIs(Wants.of(FONT, one).is_within(Wants.of(FONT, other)), within)
        large = Wants(FONT, {"0": 10 ** 99})
        self.assertIs(large.is_within(Wants(FONT, {"0": 10 ** 99 - 1})), False)

    def test_other_fonts(self):
        for font in [OTHER, Font("0698", [("6", "9")]), Font("01")]:
            self.assert_error(OtherFont, {}, lambda: WANTS + Wants.none(font))
            self.assert_error(OtherFont, {}, lambda: Wants.none(font) + WANTS)
            self.assert_error(OtherFont, {}, WANTS.is_within, Wants.none(font))


class EqualityTest(PlatesTest):

    def test_equal_wants(self):
        for other in [Wants(FONT, {"9": 1, "6": 1, "0": 2, "8": 0}), Wants.of(Font("0689", (("9", "6"),)), "9600")]:
            self.assertIs(WANTS == other, True)
            self.assertIs(WANTS != other, False)

    def test_other_wants(self):
        others = [Wants.of(FONT, "609"), Wants.of(FONT, "60908"), Wants.none(FONT), Wants.of(OTHER, "6090"),
                  Wants.of(Font("0698", [("6", "9")]), "6090")]
        for one, other in itertools.combinations([WANTS, *others], 2):
            self.assertIs(one == other, False)
            self.assertIs(one != other, True)

    def test_values_of_another_kind(self):
        for value in [WANTS.counts, "6090", "0069", 4, True, None, [WANTS], FONT, Case(FONT), *strange_values()]:
            if not isinstance(value, Wants):
                self.assertIs(WANTS == value, False)
                self.assertIs(value != WANTS, True)


if __name__ == "__main__":
    unittest.main()
