"""Uses: how many plates of a kind show a sign in the plans for some wants, and how many can be spared."""

from hymnplates.checks import is_number
from hymnplates.errors import OutOfRange, UnknownSign
from hymnplates.fonts import check_fonts
from hymnplates.hanging import check_hanging
from hymnplates.masks import excesses_of, mask_of
from hymnplates.plans import find_plan


def use_range(case, wants, kind, sign):
    """(least, greatest) of the numbers of plates of the kind that show the sign, in all plans."""
    kept = _kept_use(case, wants, kind, sign)
    return _range(case, wants, kept, sign)


def plan_with(case, wants, kind, sign, number):
    """A plan in which so many plates of the kind show the sign."""
    kept = _kept_use(case, wants, kind, sign)
    least, greatest = _range(case, wants, kept, sign)
    if not is_number(number, least, greatest):
        raise OutOfRange(number)
    supplies = []
    for one, count in case.plates:
        shown = case.font.shown(one)
        if one == kept:
            # The plates that show the sign are put aside, and the others of the kind must not show it.
            supplies.append((one, [other for other in shown if other != sign], count - number))
        else:
            supplies.append((one, shown, count))
    counts = {other: wants[other] for other in case.font.signs}
    counts[sign] = counts[sign] - number
    plan = find_plan(supplies, counts)
    if number > 0:
        plan[(kept, sign)] = number
    return plan


def spare(case, wants, kind):
    """The greatest number of plates of the kind without which the wants still hang."""
    check_fonts(case.font, wants.font)
    kept = case.font.kept(kind)
    check_hanging(case, wants)
    shown = mask_of(case.font, case.font.shown(kept))
    excesses = excesses_of(case, wants)
    return min([case[kept]] + [-excess for mask, excess in enumerate(excesses) if mask & shown > 0])


def _kept_use(case, wants, kind, sign):
    """The kind as it is kept; raises the errors of the arguments, then Lacking."""
    check_fonts(case.font, wants.font)
    kept = case.font.kept(kind)
    if sign not in case.font:
        raise UnknownSign(sign)
    check_hanging(case, wants)
    return kept


def _range(case, wants, kept, sign):
    """The range of uses; the wants hang."""
    if kept not in case or sign not in case.font.shown(kept):
        return 0, 0
    shown = mask_of(case.font, case.font.shown(kept))
    alone = mask_of(case.font, sign)
    least = 0
    greatest = min(case[kept], wants[sign])
    for mask, excess in enumerate(excesses_of(case, wants)):
        met = mask & shown
        if met == alone:
            least = max(least, case[kept] + excess)
        elif met > 0 and mask & alone == 0:
            greatest = min(greatest, -excess)
    return least, greatest
