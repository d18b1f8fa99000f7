"""Books: whether any few numbers up to a last one can be shown together, and which ones cannot."""

from hymnplates.checks import GREATEST, is_number
from hymnplates.errors import InvalidNumber
from hymnplates.fonts import all_sets, is_set, written_set
from hymnplates.masks import bearings_of, mask_of
from hymnplates.streets import nth_number, shares_of

MAX_CHOSEN = 20


def worst_share(font, last, k, signs):
    """The greatest sum of shares of up to k different numbers from 1 to the last one in the set."""
    _check_numbers(last, k, GREATEST)
    return _most_shared(shares_of(font, last, written_set(font, signs)), k)


def is_safe(case, last, k):
    """Whether any up to k different numbers from 1 to the last one hang together."""
    _check_numbers(last, k, GREATEST)
    return _unsafe_set(case, last, k) is None


def choice(case, last, k):
    """(a set, up to k different numbers that have a greater share in it than its bearing), or None."""
    _check_numbers(last, k, MAX_CHOSEN)
    signs = _unsafe_set(case, last, k)
    if signs is None:
        return None
    numbers = []
    shares = shares_of(case.font, last, signs)
    for share in range(len(shares) - 1, 0, -1):
        for index in range(min(k - len(numbers), shares[share])):
            numbers.append(nth_number(case.font, signs, share, index))
    return signs, sorted(numbers)


def is_choice(case, last, k, value):
    """Whether any value is a choice against the book."""
    _check_numbers(last, k, MAX_CHOSEN)
    if not isinstance(value, tuple) or len(value) != 2:
        return False
    signs, numbers = value
    if not is_set(case.font.signs, signs) or written_set(case.font, signs) != signs:
        return False
    if not isinstance(numbers, list) or len(numbers) > k or not all([is_number(one, 1, last) for one in numbers]):
        return False
    if any([one >= other for one, other in zip(numbers, numbers[1:])]):
        return False
    return sum([_share(case.font, number, signs) for number in numbers]) > case.bearing(signs)


def jokers(case, last, k):
    """(how many plates that show every sign make the book safe, a set that needs so many)."""
    _check_numbers(last, k, GREATEST)
    bearings = bearings_of(case)
    most = 0
    shown = ""
    for signs in all_sets(case.font):
        lacking = _most_shared(shares_of(case.font, last, signs), k) - bearings[mask_of(case.font, signs)]
        if lacking > most:
            most = lacking
            shown = signs
    return most, shown


def largest_book(case, k):
    """The greatest last number for which the book is safe."""
    _check_numbers(0, k, GREATEST)
    bearings = bearings_of(case)
    sets = [(signs, bearings[mask_of(case.font, signs)]) for signs in all_sets(case.font)]
    # The sets that lack most in the greatest book come first: they soon make it so small that others lack nothing.
    lacks = {signs: _most_shared(shares_of(case.font, GREATEST, signs), k) - bearing for signs, bearing in sets}
    last = GREATEST
    for signs, bearing in sorted(sets, key=lambda one: lacks[one[0]], reverse=True):
        last = _largest_for_set(case.font, signs, bearing, k, last)
    return last


def most_numbers(case, last):
    """The greatest k up to the last number for which the book is safe."""
    _check_numbers(last, 0, GREATEST)
    bearings = bearings_of(case)
    ks = [_most_for_set(shares_of(case.font, last, signs), bearings[mask_of(case.font, signs)])
          for signs in all_sets(case.font)]
    return min(ks)


def _check_numbers(last, k, most):
    """Raises InvalidNumber for a last number, or a k, that is none."""
    if not is_number(last, 0, GREATEST):
        raise InvalidNumber(last)
    if not is_number(k, 0, most):
        raise InvalidNumber(k)


def _most_shared(shares, k):
    """The greatest sum of shares of up to k numbers, of which so many have each share."""
    total = 0
    left = k
    for share in range(len(shares) - 1, 0, -1):
        number = min(left, shares[share])
        total = total + share * number
        left = left - number
    return total


def _unsafe_set(case, last, k):
    """The first set with a worst share above its bearing, or None."""
    bearings = bearings_of(case)
    for signs in all_sets(case.font):
        if _most_shared(shares_of(case.font, last, signs), k) > bearings[mask_of(case.font, signs)]:
            return signs
    return None


def _largest_for_set(font, signs, bearing, k, most):
    """The greatest last number, at most so great, for which the worst share of the set is within its bearing."""
    if _most_shared(shares_of(font, most, signs), k) <= bearing:
        return most
    low = 0
    high = most
    while high - low > 1:
        middle = (low + high) // 2
        if _most_shared(shares_of(font, middle, signs), k) <= bearing:
            low = middle
        else:
            high = middle
    return low


def _most_for_set(shares, bearing):
    """How many numbers, of which so many have each share, may be chosen within the bearing, whichever they are."""
    room = bearing
    chosen = 0
    for share in range(len(shares) - 1, 0, -1):
        if room // share < shares[share]:
            return chosen + room // share
        room = room - share * shares[share]
        chosen = chosen + shares[share]
    return chosen + shares[0]


def _share(font, number, signs):
    """The number of digits of the number whose signs are in the set."""
    share = 0
    left = number
    while left > 0:
        if font.signs[left % len(font)] in signs:
            share = share + 1
        left = left // len(font)
    return share
