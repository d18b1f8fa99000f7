"""Wants: how often each sign of a font is to be shown."""

from hymnplates.checks import GREATEST, is_number, is_table
from hymnplates.errors import InvalidNumber, InvalidRow, InvalidWants, UnknownSign
from hymnplates.fonts import check_fonts, is_row, written_set


class Wants:
    """A font and a count for each of its signs."""

    def __init__(self, font, counts):
        if not is_table(counts, list(font.signs)):
            raise InvalidWants(counts)
        self._font = font
        self._counts = {sign: counts.get(sign, 0) for sign in font.signs}

    @classmethod
    def of(cls, font, row):
        """The wants of a row: so often it has each sign."""
        if not is_row(font.signs, row):
            raise InvalidRow(row)
        return cls(font, {sign: row.count(sign) for sign in font.signs})

    @classmethod
    def none(cls, font):
        """The wants of no sign."""
        return cls(font, {})

    @property
    def font(self):
        """The font."""
        return self._font

    @property
    def counts(self):
        """From the signs that are wanted, in their order, to how often they are."""
        return {sign: self._counts[sign] for sign in self._counts if self._counts[sign] > 0}

    @property
    def total(self):
        """How many signs are wanted, all counts together."""
        return sum([self._counts[sign] for sign in self._counts])

    def __getitem__(self, at):
        if at not in self._font:
            raise UnknownSign(at)
        return self._counts[at]

    def __iter__(self):
        raise TypeError("wants are not iterated over")

    def __eq__(self, other):
        return isinstance(other, Wants) and self._font == other._font and self._counts == other._counts

    def __bool__(self):
        return bool(self.total > 0)

    def __add__(self, other):
        check_fonts(self._font, other.font)
        return Wants(self._font, {sign: self[sign] + other[sign] for sign in self._font.signs})

    def __mul__(self, other):
        if not is_number(other, 0, GREATEST):
            raise InvalidNumber(other)
        return Wants(self._font, {sign: self[sign] * other for sign in self._font.signs})

    def want(self, signs):
        """The want of a set: how often its signs are wanted together."""
        return sum([self._counts[sign] for sign in written_set(self._font, signs)])

    def is_within(self, other):
        """Whether no sign is wanted more often than in the other wants."""
        check_fonts(self._font, other.font)
        return all([self[sign] <= other[sign] for sign in self._font.signs])
