"""Rows of a length that hang, in order: how many there are, and which has which index.

Whether a row hangs, and how it can go on, depends only on how often it has each sign; so these counts, in tuples, stand
for all rows that have them.
"""

from math import comb

from hymnplates.checks import is_number
from hymnplates.errors import InvalidNumber, InvalidRow, OutOfRange, TooMany
from hymnplates.fonts import is_row
from hymnplates.masks import bearings_of

MAX_LENGTH = 60
MAX_WANTS = 2000


def count_rows(case, length):
    """How many rows of this length hang."""
    _check_length(case, length)
    return _endings(case, length).get(_no_signs(case), 0)


def row_at(case, length, index):
    """The row of this length that hangs and has this index."""
    _check_length(case, length)
    endings = _endings(case, length)
    counts = _no_signs(case)
    if not is_number(index, 0, endings.get(counts, 0) - 1):
        raise OutOfRange(index)
    left = index
    row = ""
    while len(row) < length:
        place = 0
        while left >= endings.get(_longer(counts, place), 0):
            left = left - endings.get(_longer(counts, place), 0)
            place = place + 1
        counts = _longer(counts, place)
        row = row + case.font.signs[place]
    return row


def row_index(case, row):
    """The index of the row among the rows of its length that hang."""
    if not is_row(case.font.signs, row):
        raise InvalidRow(row)
    if len(row) > MAX_LENGTH or _has_too_many_wants(case, len(row)):
        raise TooMany(len(row))
    endings = _endings(case, len(row))
    counts = _no_signs(case)
    before = 0
    for sign in row:
        place = case.font.signs.find(sign)
        before = before + sum([endings.get(_longer(counts, earlier), 0) for earlier in range(place)])
        counts = _longer(counts, place)
    if counts not in endings:
        raise InvalidRow(row)
    return before


def _check_length(case, length):
    if not is_number(length, 0, MAX_LENGTH):
        raise InvalidNumber(length)
    if _has_too_many_wants(case, length):
        raise TooMany(length)


def _has_too_many_wants(case, length):
    others = len(case.font) - 1
    return comb(length + others, others) > MAX_WANTS


def _no_signs(case):
    return (0,) * len(case.font)


def _longer(counts, place):
    """The counts with one more of the sign at this place of the font."""
    return counts[:place] + (counts[place] + 1,) + counts[place + 1:]


def _endings(case, length):
    """From counts to the number of ways to go on from them to a row of the length that hangs, if there are any."""
    bearings = bearings_of(case)
    level = {counts: 1 for counts in _all_counts(len(case.font), length) if _hang(bearings, counts)}
    endings = {}
    while level:
        shorter = {}
        for counts in level:
            endings[counts] = level[counts]
            for place, count in enumerate(counts):
                if count > 0:
                    less = counts[:place] + (count - 1,) + counts[place + 1:]
                    shorter[less] = shorter.get(less, 0) + level[counts]
        level = shorter
    return endings


def _all_counts(many, length):
    """All counts of so many signs that make rows of the length."""
    rows = [()]
    for _ in range(many - 1):
        rows = [row + (count,) for row in rows for count in range(length - sum(row) + 1)]
    return [row + (length - sum(row),) for row in rows]


def _hang(bearings, counts):
    """Whether the counts hang; only sets of the signs that are wanted can be wanted too often."""
    masks = [0]
    sums = [0]
    for place, count in enumerate(counts):
        if count > 0:
            masks = masks + [mask | (1 << place) for mask in masks]
            sums = sums + [want + count for want in sums]
    return all([want <= bearings[mask] for mask, want in zip(masks, sums)])
