"""Exact numbers: how many plates can show just the signs of a set, and cases that are alike in them."""

from hymnplates.checks import is_table
from hymnplates.errors import InvalidBearings, NoBearing
from hymnplates.fonts import all_sets, check_fonts
from hymnplates.masks import bearings_of, exact_numbers, mask_of, masks_in_order, numbers_of_sums, signs_of

# 10 ** 60
GREATEST_BEARING = 1000000000000000000000000000000000000000000000000000000000000


def exact(case):
    """From the sets with an exact number above 0, in order, to it."""
    return _above_zero(case.font, exact_numbers(case))


def alike(case, other):
    """None if all bearings are equal, else (the first set of which they differ, its bearing, its other bearing)."""
    check_fonts(case.font, other.font)
    bearings = bearings_of(case)
    others = bearings_of(other)
    for mask in masks_in_order(case.font):
        if bearings[mask] != others[mask]:
            return signs_of(case.font, mask), bearings[mask], others[mask]
    return None


def exact_of(font, bearings):
    """From the sets with an exact number above 0, in order, to it, if all non-empty sets have these bearings."""
    sets = {signs: True for signs in all_sets(font) if signs != ""}
    if not is_table(bearings, sets, GREATEST_BEARING) or len(bearings) != len(sets):
        raise InvalidBearings(bearings)
    known = [0] * (1 << len(font))
    for signs in sets:
        known[mask_of(font, signs)] = bearings[signs]
    # The plates that show nothing outside of a set are all those that do not bear what is outside of it.
    numbers = numbers_of_sums([known[-1] - outside for outside in known[::-1]])
    for mask in masks_in_order(font):
        if numbers[mask] < 0:
            raise NoBearing(signs_of(font, mask))
    return _above_zero(font, numbers)


def _above_zero(font, numbers):
    return {signs_of(font, mask): numbers[mask] for mask in masks_in_order(font) if numbers[mask] > 0}
