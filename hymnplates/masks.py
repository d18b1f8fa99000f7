"""Sets of signs as masks, integers with the bit of each of their signs, and sums over all sets of a font at once."""

from hymnplates.fonts import all_sets, check_fonts


def mask_of(font, signs):
    """The mask of a set."""
    return sum([1 << at for at, sign in enumerate(font.signs) if sign in signs])


def signs_of(font, mask):
    """The set of a mask, as it is written."""
    return "".join([sign for at, sign in enumerate(font.signs) if (mask >> at) & 1])


def masks_in_order(font):
    """The masks of all sets, in the order in which sets are listed."""
    return [mask_of(font, signs) for signs in all_sets(font)]


def sums_within(numbers):
    """For each mask the sum of the numbers of all masks within it."""
    return _over_parts(numbers, 1)


def numbers_of_sums(sums):
    """The numbers of which these are the sums within the masks."""
    return _over_parts(sums, -1)


def _over_parts(numbers, factor):
    """Bit by bit, the number of each mask without the bit, times the factor, added to that of the mask with it."""
    sums = list(numbers)
    bit = 1
    while bit < len(numbers):
        for mask in range(len(numbers)):
            if mask & bit:
                sums[mask] = sums[mask] + factor * sums[mask ^ bit]
        bit = bit * 2
    return sums


def exact_numbers(case):
    """For each mask the number of plates that can show just its signs."""
    return _numbers_over(case.font, case.plates)


def _numbers_over(font, plates):
    """The same for any plates, tuples (kind, count)."""
    numbers = [0] * (1 << len(font))
    for kind, count in plates:
        mask = mask_of(font, font.shown(kind))
        numbers[mask] = numbers[mask] + count
    return numbers


def bearings_of(case):
    """For each mask the bearing of its set."""
    return bearings_over(case.font, case.plates)


def bearings_over(font, plates):
    """The same for any plates, tuples (kind, count); a kind may be in several of them."""
    within = sums_within(_numbers_over(font, plates))
    # A plate bears a set unless all that it can show is outside of the set.
    return [within[-1] - outside for outside in within[::-1]]


def sums_of_wants(wants):
    """For each mask the want of its set."""
    sums = [0]
    for sign in wants.font.signs:
        sums = sums + [want + wants[sign] for want in sums]
    return sums


def excesses_of(case, wants):
    """For each mask the want of its set minus its bearing; raises OtherFont if the fonts differ."""
    check_fonts(case.font, wants.font)
    return excesses_over(case.plates, wants)


def excesses_over(plates, wants):
    """The same for any plates, tuples (kind, count)."""
    return [want - bearing for want, bearing in zip(sums_of_wants(wants), bearings_over(wants.font, plates))]


def worst_masks(excesses):
    """(the greatest excess, what is in all masks that reach it, what is in any of them)."""
    greatest = max(excesses)
    least = len(excesses) - 1
    most = 0
    for mask, excess in enumerate(excesses):
        if excess == greatest:
            least = least & mask
            most = most | mask
    return greatest, least, most
