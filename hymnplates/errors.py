"""The errors of the package: each one keeps, as attributes, the very values that it is about."""


class InvalidFont(ValueError):
    """The value is not the signs of a font."""

    def __init__(self, value):
        self.value = value


class InvalidTurns(ValueError):
    """The value is not a list of turns of the font's signs."""

    def __init__(self, value):
        self.value = value


class InvalidKind(ValueError):
    """The value is not a kind of plates of the font."""

    def __init__(self, value):
        self.value = value


class InvalidPlates(ValueError):
    """The value is not a list of plates, or is not an entry of one."""

    def __init__(self, value):
        self.value = value


class InvalidSigns(ValueError):
    """The value is not a set of signs of the font."""

    def __init__(self, value):
        self.value = value


class InvalidWants(ValueError):
    """The value is not counts of the font's signs."""

    def __init__(self, value):
        self.value = value


class InvalidRow(ValueError):
    """The value is not a row as it is asked for."""

    def __init__(self, value):
        self.value = value


class InvalidNumber(ValueError):
    """The value is not an integer within the bounds."""

    def __init__(self, value):
        self.value = value


class InvalidWorths(ValueError):
    """The value is not worths of signs, or of kinds."""

    def __init__(self, value):
        self.value = value


class InvalidPrices(ValueError):
    """The value is not prices of kinds."""

    def __init__(self, value):
        self.value = value


class InvalidHung(ValueError):
    """The value is not what hangs on a board."""

    def __init__(self, value):
        self.value = value


class InvalidCosts(ValueError):
    """The value is not the costs of a turn, a move and a fetch."""

    def __init__(self, value):
        self.value = value


class InvalidGets(ValueError):
    """What the hook with this index gets is wrong; -1 for the gets as a whole."""

    def __init__(self, index):
        self.index = index


class InvalidChurches(ValueError):
    """The value is not a list of cases and wants of churches."""

    def __init__(self, value):
        self.value = value


class InvalidWays(ValueError):
    """The value is not a list of ways between the churches."""

    def __init__(self, value):
        self.value = value


class InvalidBearings(ValueError):
    """The value is not the bearings of all sets of signs."""

    def __init__(self, value):
        self.value = value


class InvalidText(ValueError):
    """No text of a case has the line with this index there."""

    def __init__(self, line):
        self.line = line


class InvalidEdit(ValueError):
    """The edit with this index cannot be performed."""

    def __init__(self, index):
        self.index = index


class InvalidLine(ValueError):
    """The value is not a line that a desk knows."""

    def __init__(self, value):
        self.value = value


class OtherFont(ValueError):
    """The fonts differ."""


class UnknownSign(KeyError):
    """The value is not a sign of the font."""

    def __init__(self, value):
        self.value = value


class OutOfRange(IndexError):
    """The value is not an integer within the range that is there."""

    def __init__(self, value):
        self.value = value


class Lacking(LookupError):
    """The wants do not hang: the set is wanted too often."""

    def __init__(self, lack):
        self.lack = lack


class Unhung(LookupError):
    """The wants with this index would not hang: the set is wanted too often."""

    def __init__(self, index, lack):
        self.index = index
        self.lack = lack


class NoBearing(LookupError):
    """The exact number of the set would be below 0."""

    def __init__(self, lack):
        self.lack = lack


class TooMany(OverflowError):
    """There would be more than are allowed."""

    def __init__(self, value):
        self.value = value


class TooFew(ArithmeticError):
    """There are fewer plates of the kind than are taken."""

    def __init__(self, value):
        self.value = value
