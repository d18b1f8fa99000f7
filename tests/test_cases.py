"""Cases, their counts and bearings, and how they are joined and parted: promise 12."""

import itertools
import unittest

from hymnplates.cases import Case
from hymnplates.errors import InvalidKind, InvalidPlates, InvalidSigns, OtherFont, TooFew, TooMany
from hymnplates.fonts import Font, all_kinds, all_sets
from support import FONT, PlatesTest, nested, strange_values

MOST = 10 ** 30
CASE = Case(FONT, [("96", 2), ("8-", 1), ("00", 3)])


class ExamplesTest(PlatesTest):

    def test_examples_of_the_document(self):
        case = Case(Font("0689", [("6", "9")]), [("96", 2), ("8-", 1), ("00", 3)])
        told = [case.plates, case.size, case["69"], "88" in case, case.bearing("86"), case.bearing("")]
        self.assertEqual(told, [(("00", 3), ("69", 2), ("8-", 1)), 6, 2, False, 3, 0])
        self.assertEqual(case.text, "signs 0689\nturn 6 9\nplates 00 3\nplates 69 2\nplates 8- 1")
        self.assert_value_error(TooFew, "00", lambda: case - Case(case.font, [("00", 4)]))
        again = ("10", 1)
        self.assert_value_error(InvalidPlates, again, Case, Font("01"), [("01", 1), again])


class PlatesKeptTest(PlatesTest):

    def test_what_a_case_tells(self):
        self.assertEqual(CASE.font, FONT)
        self.assertEqual(CASE.plates, (("00", 3), ("69", 2), ("8-", 1)))
        self.assertEqual([CASE.kinds, CASE.size], [("00", "69", "8-"), 6])

    def test_a_case_without_plates(self):
        for case in [Case(FONT), Case(FONT, []), Case(FONT, ()), Case(font=FONT), Case(plates=[], font=FONT)]:
            self.assertEqual([case.plates, case.kinds, case.size, case.bearing("0689")], [(), (), 0, 0])
            self.assertEqual([case["06"], "06" in case, case], [0, False, Case(FONT)])

    def test_kinds_are_kept_in_their_order(self):
        plates = [("-9", 5), ("86", 1), ("0-", 2), ("00", 3), ("89", 4)]
        kept = (("00", 3), ("0-", 2), ("68", 1), ("89", 4), ("9-", 5))
        for passed in itertools.permutations(plates):
            self.assertEqual(Case(FONT, passed).plates, kept)
            self.assertEqual(Case(FONT, list(passed)), Case(FONT, kept))

    def test_all_kinds_at_once(self):
        font = Font.digits()
        plates = tuple([(kind, MOST) for kind in all_kinds(font)])
        case = Case(font, reversed_sides(plates))
        self.assertEqual([case.plates, case.size], [plates, 65 * MOST])

    def test_bounds_of_counts(self):
        self.assertEqual([Case.MAX_COUNT, CASE.MAX_COUNT], [MOST, MOST])
        for count in [1, 2, MOST - 1, MOST]:
            self.assertEqual(Case(FONT, [("06", count)])["60"], count)
        for count in [0, -1, MOST + 1, 10 ** 60, -MOST, True, False, None, "1", 1.0, (1,), [1], {1: 1}, nested(20)]:
            with self.subTest(count=count):
                entry = ("06", count)
                self.assert_value_error(InvalidPlates, entry, Case, FONT, [("00", 1), entry, ("00", 1), None])

    def test_entries_with_wrong_kinds(self):
        for kind in strange_values() + ["", "0", "--", "01", "000", ("0", "6"), ["06"], {}, "0 "]:
            with self.subTest(kind=kind):
                entry = (kind, 1)
                self.assert_value_error(InvalidPlates, entry, Case, FONT, (("00", 1), entry))

    def test_entries_of_another_form(self):
        for entry in strange_values() + ["", "06", (), ("06",), ("06", 1, 1), ["06", 1], {"06": 1}, (("06", 1),)]:
            with self.subTest(entry=entry):
                self.assert_value_error(InvalidPlates, entry, Case, FONT, [entry])
                self.assert_value_error(InvalidPlates, entry, Case, FONT, [("00", 1), entry, ("bad", 1)])

    def test_any_other_value_is_no_list_of_plates(self):
        lists = (list, tuple)
        for value in [value for value in strange_values() if not isinstance(value, lists)] + ["", "06", {}, {"06": 1}]:
            with self.subTest(value=value):
                self.assert_value_error(InvalidPlates, value, Case, FONT, value)

    def test_a_kind_that_occurred_before(self):
        for first, second in [("06", "06"), ("06", "60"), ("60", "60"), ("-8", "8-")]:
            with self.subTest(first=first, second=second):
                again = (second, 1)
                self.assert_value_error(InvalidPlates, again, Case, FONT, [(first, 1), ("00", 1), again, ("00", 1)])

    def test_the_first_wrong_entry_is_told(self):
        wrong, again = ("06", 0), ("00", 2)
        self.assert_value_error(InvalidPlates, wrong, Case, FONT, [("00", 1), wrong, again])
        self.assert_value_error(InvalidPlates, again, Case, FONT, [("00", 1), again, wrong])

    def test_what_is_passed_is_copied(self):
        plates = [("96", 2), ("00", 3)]
        case = Case(FONT, plates)
        self.assertEqual(plates, [("96", 2), ("00", 3)])
        plates.append(("88", 1))
        plates[0] = ("00", 1)
        self.assertEqual([case.plates, case["88"], case.size], [(("00", 3), ("69", 2)), 0, 5])

    def test_an_error_changes_nothing_that_is_passed(self):
        plates = [("96", 2), ("69", 1)]
        self.assert_value_error(InvalidPlates, plates[1], Case, FONT, plates)
        self.assertEqual(plates, [("96", 2), ("69", 1)])

    def test_a_case_cannot_be_changed(self):
        for name in ["font", "plates", "kinds", "size", "text"]:
            with self.assertRaises(AttributeError):
                setattr(CASE, name, ())
        with self.assertRaises(TypeError):
            CASE["00"] = 1

    def test_kinds_in_a_case(self):
        inside = [kind for kind in all_kinds(FONT) if kind in CASE]
        self.assertEqual(inside, ["00", "69", "8-"])
        self.assertTrue("96" in CASE and "-8" in CASE)

    def test_other_values_in_a_case(self):
        for value in strange_values() + ["", "0", "--", "0-", "01", "000", [], (), ("00", 3), {}]:
            with self.subTest(value=value):
                self.assertIs(value in CASE, False)
        self.assertIs("00" in CASE, True)

    def test_counts_of_kinds(self):
        self.assertEqual([CASE[kind] for kind in ["00", "69", "96", "8-", "-8", "88", "06", "-0"]], [3, 2, 2, 1, 1, 0, 0, 0])

    def test_counts_of_other_values(self):
        for value in strange_values() + ["", "0", "01", "000", [], (), ("00", 3), {}]:
            with self.subTest(value=value):
                self.assert_value_error(InvalidKind, value, lambda: CASE[value])

    def test_a_case_is_not_iterated_over(self):
        with self.assertRaises(TypeError):
            list(CASE)


def reversed_sides(plates):
    return [(kind[::-1], count) for kind, count in reversed(plates)]


class BearingTest(PlatesTest):

    def test_bearings_count_plates_that_show_a_sign(self):
        font = Font("b069", [("6", "9"), ("0", "0")])
        case = Case(font, [(kind, 1 << at) for at, kind in enumerate(all_kinds(font))])
        for signs in all_sets(font):
            showing = [count for kind, count in case.plates if set(case.font.shown(kind)) & set(signs)]
            for passed in [signs, signs[::-1]]:
                self.assertEqual(case.bearing(passed), sum(showing))

    def test_bearings_by_hand(self):
        bearings = {"": 0, "0": 3, "6": 2, "9": 2, "8": 1, "69": 2, "60": 5, "08": 4, "98": 3, "9806": 6}
        self.assertEqual({signs: CASE.bearing(signs) for signs in bearings}, bearings)
        self.assertEqual(CASE.bearing(signs="6"), 2)

    def test_a_plate_bears_a_set_once(self):
        case = Case(FONT, [("06", MOST), ("69", MOST), ("0-", MOST)])
        self.assertEqual([case.bearing("069"), case.bearing("0"), case.bearing("9")], [3 * MOST, 2 * MOST, 2 * MOST])

    def test_any_other_value_is_no_set(self):
        for value in strange_values() + ["00", "0660", "1", "-", "0-", "06891", "0 6", [], (), {}, ["0", "6"]]:
            with self.subTest(value=value):
                self.assert_value_error(InvalidSigns, value, CASE.bearing, value)


class EqualityTest(PlatesTest):

    def test_equal_cases(self):
        other = Case(Font("0689", [("9", "6")]), (("00", 3), ("-8", 1), ("69", 2)))
        self.assertIs(CASE == other, True)
        self.assertIs(CASE != other, False)

    def test_other_cases(self):
        cases = [CASE, Case(FONT), Case(Font("0689")), Case(FONT, [("00", 3)]), Case(FONT, [("00", 2)]),
                 Case(Font("0689"), CASE.plates), Case(Font("0698", [("6", "9")]), CASE.plates)]
        for one, other in itertools.combinations(cases, 2):
            self.assertIs(one == other, False)
            self.assertIs(one != other, True)

    def test_values_of_another_kind(self):
        for value in [CASE.text, CASE.plates, dict(CASE.plates), None, True, 6, FONT, [CASE]]:
            self.assertIs(CASE == value, False)
            self.assertIs(value != CASE, True)


class JoiningTest(PlatesTest):

    def setUp(self):
        font = Font("01")
        counts = [(0, 0, 0), (1, 0, 2), (0, 3, 0), (2, 3, 1), (MOST, 0, 0), (MOST - 1, MOST, 1)]
        self.cases = [case_of(font, many) for many in counts]

    def test_what_was_joined_can_be_parted(self):
        for one, other in itertools.product(self.cases, self.cases):
            sums = [one[kind] + other[kind] for kind in all_kinds(one.font)]
            if max(sums) <= MOST:
                joined = one | other
                self.assertEqual([joined[kind] for kind in all_kinds(one.font)], sums)
                self.assertEqual(joined, other | one)
                self.assertEqual([joined - other, joined - one], [one, other])

    def test_too_many(self):
        for one, other in itertools.product(self.cases, self.cases):
            many = [kind for kind in all_kinds(one.font) if one[kind] + other[kind] > MOST]
            if many:
                self.assert_value_error(TooMany, many[0], lambda: one | other)

    def test_too_few(self):
        for one, other in itertools.product(self.cases, self.cases):
            few = [kind for kind in all_kinds(one.font) if one[kind] < other[kind]]
            if few:
                self.assert_value_error(TooFew, few[0], lambda: one - other)
            else:
                self.assertEqual((one - other).size, one.size - other.size)

    def test_the_first_kind_is_told_as_it_is_kept(self):
        one = Case(FONT, [("-9", MOST), ("96", MOST), ("8-", 1)])
        self.assert_value_error(TooMany, "69", lambda: one | Case(FONT, [("9-", 1), ("69", 1)]))
        self.assert_value_error(TooFew, "00", lambda: one - Case(FONT, [("98", 1), ("00", 1)]))
        self.assert_value_error(TooFew, "8-", lambda: one - Case(FONT, [("-8", 2), ("69", 1)]))

    def test_bounds_of_joined_counts(self):
        one = Case(FONT, [("06", MOST - 1)])
        self.assertEqual((one | Case(FONT, [("60", 1)]))["06"], MOST)
        self.assert_value_error(TooMany, "06", lambda: one | Case(FONT, [("60", 2)]))

    def test_kinds_without_plates_are_not_kept(self):
        self.assertEqual((CASE - Case(FONT, [("00", 3), ("69", 1)])).plates, (("69", 1), ("8-", 1)))
        self.assertEqual((CASE - CASE).plates, ())
        self.assertEqual([CASE | Case(FONT), CASE - Case(FONT), Case(FONT) | CASE], [CASE, CASE, CASE])

    def test_other_fonts_come_first(self):
        full = Case(Font("0689"), [("00", MOST)])
        self.assert_error(OtherFont, {}, lambda: Case(FONT, [("00", MOST)]) | full)
        self.assert_error(OtherFont, {}, lambda: Case(FONT) - full)
        self.assert_error(OtherFont, {}, lambda: Case(Font("01")) | Case(Font("10")))

    def test_neither_case_changes(self):
        one, other = Case(FONT, [("06", 2), ("8-", MOST)]), Case(FONT, [("06", 1), ("00", 1)])
        for action in [lambda: one | other, lambda: one | one, lambda: one - other, lambda: one - one]:
            try:
                action()
            except (TooFew, TooMany):
                pass
            self.assertEqual([one.plates, other.plates], [(("06", 2), ("8-", MOST)), (("00", 1), ("06", 1))])
        changed = one
        changed |= Case(FONT, [("00", 1)])
        self.assertEqual([changed["00"], one["00"]], [1, 0])


def case_of(font, many):
    """The case with so many plates of some kinds."""
    return Case(font, [(kind, count) for kind, count in zip(["00", "01", "1-"], many) if count])


if __name__ == "__main__":
    unittest.main()
