"""Fonts: signs, what they show on their heads, kinds of plates and sets of signs."""

from itertools import combinations

from hymnplates.checks import is_listed
from hymnplates.errors import InvalidFont, InvalidKind, InvalidSigns, InvalidTurns, OtherFont, UnknownSign

ALPHABET = "0123456789abcdefghijklmnopqrstuvwxyz"
BLANK = "-"


class Font:
    """Two to ten signs in an order of their own, some of which show signs on their heads."""

    MAX_SIGNS = 10

    def __init__(self, signs, turns=()):
        if not is_font_signs(signs):
            raise InvalidFont(signs)
        pairs = kept_turns(signs, turns)
        if pairs is None:
            raise InvalidTurns(turns)
        self._signs = signs
        self._turns = pairs

    @classmethod
    def digits(cls):
        """The font of the ten digits, which turn as they do on church boards."""
        return cls("0123456789", (("0", "0"), ("1", "1"), ("6", "9"), ("8", "8")))

    @classmethod
    def of(cls, *signs):
        """The font of these signs, without turns."""
        if not all([isinstance(sign, str) and len(sign) == 1 for sign in signs]):
            raise InvalidFont(signs)
        return cls("".join(signs))

    @property
    def signs(self):
        """The signs, in their order."""
        return self._signs

    @property
    def turns(self):
        """The turns, as they are kept."""
        return self._turns

    def __len__(self):
        return len(self._signs)

    def __contains__(self, x):
        return is_sign(self._signs, x)

    def __eq__(self, other):
        return isinstance(other, Font) and self._signs == other._signs and self._turns == other._turns

    def turned(self, sign):
        """The sign that this one shows on its head, or None."""
        if sign not in self:
            raise UnknownSign(sign)
        for one, other in self._turns:
            if sign == one:
                return other
            if sign == other:
                return one
        return None

    def shown(self, kind):
        """The set of signs that plates of the kind can show."""
        sides = [side for side in self.kept(kind) if side != BLANK]
        heads = [self.turned(side) for side in sides]
        return "".join([sign for sign in self._signs if sign in sides or sign in heads])

    def kept(self, kind):
        """The kind as it is kept, the earlier side first."""
        if not is_kind(self._signs, kind):
            raise InvalidKind(kind)
        order = self._signs + BLANK
        # What operators run calls nothing that has the name of an attribute, and errors have an index.
        if order.find(kind[0]) > order.find(kind[1]):
            return kind[1] + kind[0]
        return kind


def is_font_signs(value):
    """Whether any value is the signs of a font."""
    return isinstance(value, str) and 2 <= len(value) <= Font.MAX_SIGNS and is_set(ALPHABET, value)


def is_sign(signs, value):
    """Whether any value is one of the signs."""
    return isinstance(value, str) and len(value) == 1 and value in signs


def is_set(signs, value):
    """Whether any value is a string of different ones of the signs, in any order."""
    return isinstance(value, str) and len(set(value)) == len(value) and all([sign in signs for sign in value])


def is_row(signs, value):
    """Whether any value is a row of the signs."""
    return isinstance(value, str) and all([sign in signs for sign in value])


def is_kind(signs, value):
    """Whether any value is a kind of plates with these signs, whichever side comes first."""
    if not isinstance(value, str) or len(value) != 2 or value == BLANK + BLANK:
        return False
    return all([side == BLANK or side in signs for side in value])


def kept_turns(signs, turns):
    """The turns as they are kept, or None for any value that is not a list of turns of the signs."""
    if not is_listed(turns):
        return None
    heads = {}
    for pair in turns:
        if not _is_pair(signs, pair) or pair[0] in heads or pair[1] in heads:
            return None
        heads[pair[0]] = pair[1]
        heads[pair[1]] = pair[0]
    # Each pair stands twice in the heads, but only once with its earlier sign in front.
    both = [(sign, heads[sign]) for sign in signs if sign in heads]
    return tuple([pair for pair in both if signs.find(pair[0]) <= signs.find(pair[1])])


def _is_pair(signs, value):
    return isinstance(value, tuple) and len(value) == 2 and all([is_sign(signs, sign) for sign in value])


def check_fonts(font, other):
    """Raises OtherFont if the fonts differ."""
    if font != other:
        raise OtherFont()


def all_kinds(font):
    """All kinds of plates of the font, as they are kept, in their order."""
    sides = font.signs + BLANK
    return [one + other for at, one in enumerate(sides) for other in sides[at:] if one != BLANK]


def written_set(font, signs):
    """The set of signs as it is written; raises InvalidSigns for any value that is none."""
    if not is_set(font.signs, signs):
        raise InvalidSigns(signs)
    return "".join([sign for sign in font.signs if sign in signs])


def all_sets(font):
    """All sets of signs of the font, as they are listed."""
    sets = []
    for size in range(len(font.signs) + 1):
        for chosen in combinations(font.signs, size):
            sets.append("".join(chosen))
    return sets
