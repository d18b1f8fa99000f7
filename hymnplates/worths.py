"""Worths of signs: the part of some wants that is worth most, and the price list that shows that none is worth more."""

from hymnplates.checks import GREATEST, is_number, is_table
from hymnplates.errors import InvalidWorths
from hymnplates.fonts import check_fonts
from hymnplates.hanging import hangs
from hymnplates.masks import bearings_of, excesses_of, mask_of, signs_of, worst_masks
from hymnplates.wants import Wants


def best(case, wants, worths):
    """(the worth of the best part, the best part, a price list that shows it)."""
    full = _full_worths(case, wants, worths)
    part = _best_part(case, wants, full)
    return _worth(part, full), part, _price_list(case, wants, full)


def is_best(case, wants, worths, value):
    """Whether any value is a best part with its worth and a price list that shows it."""
    full = _full_worths(case, wants, worths)
    if not isinstance(value, tuple) or len(value) != 3:
        return False
    worth, part, prices = value
    if not is_number(worth, 0) or not _is_part(case, wants, part) or not is_price_list(case.font, prices):
        return False
    return worth == _worth(part, full) and worth == _most_worth(case, wants, full, prices)


def is_price_list(font, value):
    """Whether any value is a price list of the font."""
    return is_table(value, list(font.signs)) and len(value) == len(font)


def list_price(font, prices, kind):
    """The greatest price, in the list, of a sign that the kind shows."""
    return max([prices[sign] for sign in font.shown(kind)])


def _full_worths(case, wants, worths):
    """The worths of all signs; raises the errors of the arguments."""
    check_fonts(case.font, wants.font)
    if not is_table(worths, list(case.font.signs), GREATEST):
        raise InvalidWorths(worths)
    return {sign: worths.get(sign, 0) for sign in case.font.signs}


def _worth(part, worths):
    return sum([part[sign] * worths[sign] for sign in worths])


def _is_part(case, wants, value):
    """Whether any value is a part of the wants that hangs."""
    if not isinstance(value, Wants) or value.font != case.font:
        return False
    return value.is_within(wants) and hangs(case, value)


def _most_worth(case, wants, worths, prices):
    """What no part is worth more than, by the price list."""
    plates = sum([count * list_price(case.font, prices, kind) for kind, count in case.plates])
    return plates + sum([wants[sign] * max(0, worths[sign] - prices[sign]) for sign in worths])


def _best_part(case, wants, worths):
    """The signs that are worth most come first, each as often as it can be shown beside those before it."""
    rooms = bearings_of(case)
    counts = {}
    for sign in sorted(list(worths), key=lambda one: worths[one], reverse=True):
        bit = mask_of(case.font, sign)
        count = min([wants[sign]] + [room for mask, room in enumerate(rooms) if mask & bit])
        rooms = [room - count if mask & bit else room for mask, room in enumerate(rooms)]
        counts[sign] = count
    return Wants(case.font, counts)


def _price_list(case, wants, worths):
    """Each sign has the greatest worth for which it is in the least worst set of the signs worth so much or more.

    With more signs these sets only get more signs. The part that is worth most reaches, for each of these worths, what
    the bearing of the set and the wants of the others allow; and the prices sum up just these bounds.
    """
    prices = {sign: 0 for sign in case.font.signs}
    for least in sorted([worths[sign] for sign in worths]):
        dear = Wants(case.font, {sign: wants[sign] for sign in worths if worths[sign] >= least})
        worst = signs_of(case.font, worst_masks(excesses_of(case, dear))[1])
        for sign in worst:
            prices[sign] = least
    return prices
