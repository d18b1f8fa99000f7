"""Cases: how many plates there are of which kinds, and the texts that cases are written as."""

from hymnplates.checks import is_listed, is_number, is_numeral
from hymnplates.errors import InvalidPlates, InvalidText, TooFew, TooMany
from hymnplates.fonts import Font, all_kinds, check_fonts, is_font_signs, is_kind, kept_turns, written_set


class Case:
    """A font and, for each of some kinds, a count of plates."""

    # 10 ** 30
    MAX_COUNT = 1000000000000000000000000000000

    def __init__(self, font, plates=()):
        counts = _counted(font, plates)
        self._font = font
        self._counts = counts
        self._plates = tuple([(kind, counts[kind]) for kind in counts])

    @classmethod
    def read(cls, text):
        """The case of which this is the text."""
        if not isinstance(text, str):
            raise InvalidText(0)
        rows = [line.split(" ") for line in text.split("\n")]
        if not _is_signs_line(rows[0]):
            raise InvalidText(0)
        signs = rows[0][1]
        turns = _read_turns(signs, rows[1:])
        font = Font(signs, turns)
        return cls(font, _read_plates(font, rows, 1 + len(turns)))

    @property
    def font(self):
        """The font."""
        return self._font

    @property
    def plates(self):
        """Tuples of the kinds, in their order, and their counts."""
        return self._plates

    @property
    def kinds(self):
        """The kinds of which there are plates, in their order."""
        return tuple([kind for kind, count in self._plates])

    @property
    def size(self):
        """The number of plates."""
        return sum([count for kind, count in self._plates])

    @property
    def text(self):
        """The text of the case."""
        turns = [f"turn {one} {other}" for one, other in self._font.turns]
        plates = [f"plates {kind} {count}" for kind, count in self._plates]
        return "\n".join([f"signs {self._font.signs}"] + turns + plates)

    def __contains__(self, x):
        return is_kind(self._font.signs, x) and self._font.kept(x) in self._counts

    def __getitem__(self, at):
        return self._counts.get(self._font.kept(at), 0)

    def __iter__(self):
        raise TypeError("a case is not iterated over")

    def __eq__(self, other):
        return isinstance(other, Case) and self._font == other._font and self._plates == other._plates

    def __or__(self, other):
        check_fonts(self._font, other.font)
        joined = [(kind, self[kind] + other[kind]) for kind in all_kinds(self._font)]
        for kind, count in joined:
            if count > Case.MAX_COUNT:
                raise TooMany(kind)
        return Case(self._font, [(kind, count) for kind, count in joined if count > 0])

    def __sub__(self, other):
        check_fonts(self._font, other.font)
        parted = [(kind, self[kind] - other[kind]) for kind in all_kinds(self._font)]
        for kind, count in parted:
            if count < 0:
                raise TooFew(kind)
        return Case(self._font, [(kind, count) for kind, count in parted if count > 0])

    def bearing(self, signs):
        """The number of plates that can show at least one of the signs."""
        wanted = written_set(self._font, signs)
        return sum([count for kind, count in self._plates if _meet(self._font.shown(kind), wanted)])


def _meet(signs, others):
    return any([sign in others for sign in signs])


def _counted(font, plates):
    """From the kinds, in their order, to the counts in a list of plates."""
    if not is_listed(plates):
        raise InvalidPlates(plates)
    counts = {}
    for entry in plates:
        if not _is_entry(font, entry) or font.kept(entry[0]) in counts:
            raise InvalidPlates(entry)
        counts[font.kept(entry[0])] = entry[1]
    return {kind: counts[kind] for kind in all_kinds(font) if kind in counts}


def _is_entry(font, value):
    if not isinstance(value, tuple) or len(value) != 2:
        return False
    return is_kind(font.signs, value[0]) and is_number(value[1], 1, Case.MAX_COUNT)


def _is_signs_line(words):
    return len(words) == 2 and words[0] == "signs" and is_font_signs(words[1])


def _read_turns(signs, rows):
    """The turns that the first rows write; the first other row is left to be judged as plates."""
    turns = []
    for words in rows:
        longer = turns + [tuple(words[1:])]
        # Only turns in their order are the same when they are kept.
        if words[0] != "turn" or kept_turns(signs, longer) != tuple(longer):
            return turns
        turns = longer
    return turns


def _read_plates(font, rows, start):
    """The plates that the rows from the start on write."""
    places = {kind: place for place, kind in enumerate(all_kinds(font))}
    last = -1
    plates = []
    for at in range(start, len(rows)):
        words = rows[at]
        # Kinds that come earlier cannot stand in a later line.
        if not _is_plates_line(words) or places.get(words[1], -1) <= last:
            raise InvalidText(at)
        plates.append((words[1], int(words[2])))
        last = places[words[1]]
    return plates


def _is_plates_line(words):
    if len(words) != 3 or words[0] != "plates":
        return False
    return is_numeral(words[2], len(str(Case.MAX_COUNT))) and is_number(int(words[2]), 1, Case.MAX_COUNT)
