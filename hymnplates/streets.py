"""Streets: numbers written in the signs of a font, how often they have each sign, and their shares in sets of signs."""

from hymnplates.checks import GREATEST, is_number
from hymnplates.errors import InvalidNumber, InvalidRow, OutOfRange
from hymnplates.fonts import is_row, written_set
from hymnplates.masks import bearings_of, sums_of_wants
from hymnplates.wants import Wants

MAX_SHARE = 1000


def written(font, number):
    """The row of a number."""
    _check_first(number)
    return "".join([font.signs[digit] for digit in _digits(font, number)])


def number_of(font, row):
    """The number that a row writes."""
    if not is_row(font.signs, row) or row == "" or row[0] == font.signs[0]:
        raise InvalidRow(row)
    number = 0
    for sign in row:
        number = number * len(font) + font.signs.find(sign)
    return number


def street(font, first, last):
    """The wants of a street."""
    _check_first(first)
    if not is_number(last, first - 1, GREATEST):
        raise InvalidNumber(last)
    return _wants(font, first, last)


def longest_street(case, first):
    """The greatest last number such that the street from the first number on hangs."""
    _check_first(first)
    bearings = bearings_of(case)
    last = first - 1
    step = 1
    # Longer streets want more of each sign. So the steps may grow until one is too long, and are halved from then on.
    while _hang(bearings, _wants(case.font, first, last + step)):
        last = last + step
        step = step * 2
    while step > 1:
        step = step // 2
        if _hang(bearings, _wants(case.font, first, last + step)):
            last = last + step
    return last


def count_with(font, last, signs, share):
    """How many numbers from 1 to the last one have this share in the set."""
    return _number_with(font, last, _kept_set(font, last, signs, share), share)


def nth_with(font, last, signs, share, index):
    """The number with this index among the numbers from 1 to the last one that have this share in the set."""
    kept = _kept_set(font, last, signs, share)
    if not is_number(index, 0, _number_with(font, last, kept, share) - 1):
        raise OutOfRange(index)
    return nth_number(font, kept, share, index)


def shares_of(font, last, signs):
    """A list: how many numbers from 1 to the last one have the share 0 in the set, how many 1, and so on."""
    places = [font.signs.find(sign) for sign in signs]
    inside, outside = len(places), len(font) - len(places)
    begun = _split(places, 1, len(font))
    shares = [0]
    same = 0
    for at, digit in enumerate(_digits(font, last)):
        # First the numbers that are begun and go on in any way: they have less than the last one's digits before here.
        shares = [outside * one + inside * other for one, other in zip(shares + [0], [0] + shares)]
        if at > 0:
            shares[0] = shares[0] + begun[0]
            shares[1] = shares[1] + begun[1]
        # Then those that had the same digits, and have a smaller one here.
        less = _split(places, 0 if at > 0 else 1, digit)
        shares[same] = shares[same] + less[0]
        shares[same + 1] = shares[same + 1] + less[1]
        if digit in places:
            same = same + 1
    if last > 0:
        shares[same] = shares[same] + 1
    return shares


def nth_number(font, signs, share, index):
    """The number with this index among all numbers that have this share in the set; so many must have it."""
    places = [font.signs.find(sign) for sign in signs]
    # For each length how many rows of it have which share.
    rows = [[1]]
    left = index
    while left >= _begun_with(font, places, rows[-1], share):
        left = left - _begun_with(font, places, rows[-1], share)
        rows.append([(len(font) - len(places)) * one + len(places) * other
                     for one, other in zip(rows[-1] + [0], [0] + rows[-1])])
    number = 0
    wanted = share
    for behind in rows[::-1]:
        digit = 0 if number > 0 else 1
        while left >= _at(behind, wanted - (1 if digit in places else 0)):
            left = left - _at(behind, wanted - (1 if digit in places else 0))
            digit = digit + 1
        wanted = wanted - (1 if digit in places else 0)
        number = number * len(font) + digit
    return number


def _check_first(number):
    if not is_number(number, 1, GREATEST):
        raise InvalidNumber(number)


def _digits(font, number):
    """The digits of a number, the greatest place first; none of 0."""
    digits = []
    left = number
    while left > 0:
        digits.append(left % len(font))
        left = left // len(font)
    return digits[::-1]


def _wants(font, first, last):
    """The wants of a street, its numbers of any size."""
    before = _counts_to(font, first - 1)
    counts = [count - one for count, one in zip(_counts_to(font, last), before)]
    return Wants(font, {sign: count for sign, count in zip(font.signs, counts)})


def _counts_to(font, last):
    """How often the numbers from 1 to the last one have each digit."""
    counts = [0] * len(font)
    place = 1
    while place <= last:
        higher = last // (place * len(font))
        digit = last // place % len(font)
        for one in range(len(font)):
            whole = higher + 1 if one < digit else higher
            # A zero does not lead a number.
            counts[one] = counts[one] + place * (whole - 1 if one == 0 else whole)
        counts[digit] = counts[digit] + last % place + 1
        place = place * len(font)
    return counts


def _hang(bearings, wants):
    return all([want <= bearing for want, bearing in zip(sums_of_wants(wants), bearings)])


def _kept_set(font, last, signs, share):
    """The set as it is written; raises the errors of the arguments."""
    if not is_number(last, 0, GREATEST):
        raise InvalidNumber(last)
    kept = written_set(font, signs)
    if not is_number(share, 0, MAX_SHARE):
        raise InvalidNumber(share)
    return kept


def _number_with(font, last, signs, share):
    return _at(shares_of(font, last, signs), share)


def _at(numbers, index):
    """The number with this index, 0 where the list has none."""
    return numbers[index] if 0 <= index < len(numbers) else 0


def _split(places, least, end):
    """(how many digits from the least one to the one before the end are not in the set, how many are)."""
    inside = len([digit for digit in places if least <= digit < end])
    return end - least - inside, inside


def _begun_with(font, places, behind, share):
    """How many numbers have the share, one digit longer than the rows of which so many have each share."""
    outside, inside = _split(places, 1, len(font))
    return outside * _at(behind, share) + inside * _at(behind, share - 1)
