"""Hanging: whether all wanted signs can be shown at once, by which plates, and which sets are wanted too often."""

from hymnplates.checks import is_number
from hymnplates.errors import Lacking
from hymnplates.fonts import check_fonts, is_kind, is_set, is_sign
from hymnplates.masks import excesses_of, masks_in_order, signs_of, sums_of_wants, worst_masks
from hymnplates.plans import find_plan
from hymnplates.wants import Wants


def answer(case, wants):
    """("plan", a plan) if the wants hang, else ("lack", a lack)."""
    lack = least_lack(case, wants)
    if lack is not None:
        return "lack", lack
    supplies = [(kind, case.font.shown(kind), count) for kind, count in case.plates]
    return "plan", find_plan(supplies, wants.counts)


def hangs(case, wants):
    """Whether the wants hang."""
    return max(excesses_of(case, wants)) == 0


def least_lack(case, wants):
    """The least worst set if the wants do not hang, else None."""
    greatest, least, _ = worst_masks(excesses_of(case, wants))
    if greatest == 0:
        return None
    return signs_of(case.font, least)


def check_hanging(case, wants):
    """Raises Lacking if the wants do not hang."""
    lack = least_lack(case, wants)
    if lack is not None:
        raise Lacking(lack)


def is_plan(case, wants, value):
    """Whether any value is a plan for the case and the wants."""
    check_fonts(case.font, wants.font)
    if not isinstance(value, dict) or not all([_is_use(case.font, key, value[key]) for key in value]):
        return False
    taken = {kind: 0 for kind in case.kinds}
    shown = {sign: 0 for sign in case.font.signs}
    for kind, sign in value:
        taken[kind] = taken.get(kind, 0) + value[(kind, sign)]
        shown[sign] = shown[sign] + value[(kind, sign)]
    enough = all([taken[kind] <= case[kind] for kind in taken])
    return enough and all([shown[sign] == wants[sign] for sign in shown])


def _is_use(font, key, number):
    """Whether any two values are a kind as it is kept with a sign that it can show, and a number of plates."""
    if not isinstance(key, tuple) or len(key) != 2 or not is_number(number, 1):
        return False
    kind, sign = key
    if not is_kind(font.signs, kind) or font.kept(kind) != kind:
        return False
    return is_sign(font.shown(kind), sign)


def is_lack(case, wants, value):
    """Whether any value is a lack of the case and the wants."""
    check_fonts(case.font, wants.font)
    if not is_set(case.font.signs, value):
        return False
    ascending = "".join([sign for sign in case.font.signs if sign in value])
    return value == ascending and wants.want(value) > case.bearing(value)


def shortage(case, wants):
    """(the shortage, the least worst set, the greatest worst set)."""
    greatest, least, most = worst_masks(excesses_of(case, wants))
    return greatest, signs_of(case.font, least), signs_of(case.font, most)


def worst_sets(case, wants):
    """All worst sets, in order."""
    excesses = excesses_of(case, wants)
    greatest = max(excesses)
    for mask in masks_in_order(case.font):
        if excesses[mask] == greatest:
            yield signs_of(case.font, mask)


def lots(case, wants):
    """The lots, ascending by their first signs: the signs of a lot are in the same worst sets."""
    worst = list(worst_sets(case, wants))
    members = {}
    for sign in case.font.signs:
        places = "".join(["1" if sign in signs else "0" for signs in worst])
        members[places] = members.get(places, "") + sign
    return list(members.values())


def copies(case, wants, others=None):
    """(how often the wants hang together with the others, a set that shows it), or None if nothing is wanted."""
    rest = _others(case, wants, others)
    check_hanging(case, rest)
    if wants.total == 0:
        return None
    rooms = [-excess for excess in excesses_of(case, rest)]
    most = None
    shown = 0
    for mask, want in enumerate(sums_of_wants(wants)):
        if want > 0 and (most is None or rooms[mask] // want < most):
            most = rooms[mask] // want
            shown = mask
    return most, signs_of(case.font, shown)


def ladder(case, wants, others=None):
    """Tuples (m, the least worst set of m times the wants and the others), for 0 and each m with another set."""
    starts = excesses_of(case, _others(case, wants, others))
    slopes = sums_of_wants(wants)
    steps = []
    m = 0
    while m is not None:
        least = worst_masks([start + m * slope for start, slope in zip(starts, slopes)])[1]
        steps.append((m, signs_of(case.font, least)))
        m = _next_rung(starts, slopes, least)
    return steps


def _next_rung(starts, slopes, mask):
    """The least m at which another set is worse than the mask, or None.

    The least worst set only gets more signs, so it stays the same until another set is worse.
    """
    passing = [(starts[mask] - start) // (slope - slopes[mask]) + 1
               for start, slope in zip(starts, slopes) if slope > slopes[mask]]
    return min(passing, default=None)


def _others(case, wants, others):
    """The other wants, which may be left out; raises OtherFont if a font differs."""
    check_fonts(case.font, wants.font)
    if others is None:
        return Wants.none(case.font)
    check_fonts(case.font, others.font)
    return others
