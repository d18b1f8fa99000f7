"""The desk: lines of words that are executed on a chest, and the table of a case."""

from hymnplates.books import is_safe, jokers
from hymnplates.checks import is_numeral
from hymnplates.chests import Chest
from hymnplates.errors import InvalidLine
from hymnplates.hanging import copies, least_lack, shortage
from hymnplates.streets import longest_street
from hymnplates.uses import spare
from hymnplates.wants import Wants

DONE = "ok"
MAX_DIGITS = 41
NO_SIGNS = "-"
TRY = "try"


def table(case):
    """A line for each kind: the kind, its count and the signs that it shows."""
    width = max([len(str(count)) for kind, count in case.plates], default=0)
    return "\n".join([f"{kind} {str(count).rjust(width)} {case.font.shown(kind)}" for kind, count in case.plates])


def _put(chest, kind, count):
    chest.put(kind, count)
    return DONE


def _take(chest, kind, count):
    chest.take(kind, count)
    return DONE


def _paint(chest, kind, other, count):
    chest.paint(kind, other, count)
    return DONE


def _undo(chest, count=1):
    chest.undo(count)
    return DONE


def _redo(chest, count=1):
    chest.redo(count)
    return DONE


def _hang(chest, row):
    lack = least_lack(chest.case, _wants(chest, row))
    return "yes" if lack is None else f"lack {lack}"


def _short(chest, row):
    return str(shortage(chest.case, _wants(chest, row))[0])


def _copies(chest, row):
    found = copies(chest.case, _wants(chest, row))
    return "any" if found is None else str(found[0])


def _spare(chest, kind, row):
    return str(spare(chest.case, _wants(chest, row), kind))


def _street(chest, first):
    return str(longest_street(chest.case, first))


def _safe(chest, last, k):
    return "yes" if is_safe(chest.case, last, k) else "no"


def _jokers(chest, last, k):
    return str(jokers(chest.case, last, k)[0])


def _table(chest):
    return table(chest.case)


def _text(chest):
    return chest.case.text


ACTIONS = {
    "put": _put, "take": _take, "paint": _paint, "undo": _undo, "redo": _redo, "hang": _hang, "short": _short,
    "copies": _copies, "spare": _spare, "street": _street, "safe": _safe, "jokers": _jokers, "table": _table,
    "text": _text,
}

# What may stand behind the first word: for each further word an N if it writes an integer, a W if it is any word.
FORMS = {
    "put": ("WN",), "take": ("WN",), "paint": ("WWN",), "undo": ("", "N"), "redo": ("", "N"), "hang": ("W",),
    "short": ("W",), "copies": ("W",), "spare": ("WW",), "street": ("N",), "safe": ("NN",), "jokers": ("NN",),
    "table": ("",), "text": ("",),
}


class Desk:
    """Lines are executed on a chest of its own."""

    def __init__(self, case):
        self._chest = Chest(case)

    @property
    def chest(self):
        """The desk's chest itself."""
        return self._chest

    def execute(self, line):
        """The text that a line tells."""
        words = line.split(" ") if isinstance(line, str) else []
        tried = words[:1] == [TRY]
        told = words[1:] if tried else words
        arguments = _arguments(told)
        if arguments is None:
            raise InvalidLine(line)
        if tried:
            return self._chest.explore(lambda chest: _told(chest, told[0], arguments))
        return _told(self._chest, told[0], arguments)

    def run(self, *lines):
        """The texts that lines tell in turn; an error ends this, and the lines before it stay done."""
        return [self.execute(line) for line in lines]

    def __call__(self, line):
        return self.execute(line)


def _told(chest, name, arguments):
    """The text that the action of this name tells."""
    action = ACTIONS[name]
    return action(chest, *arguments)


def _arguments(words):
    """What the words behind the first one say, or None if they do not fit it."""
    forms = FORMS.get(words[0], ()) if words else ()
    behind = words[1:]
    for form in forms:
        if len(form) == len(behind) and all([_fits(sign, word) for sign, word in zip(form, behind)]):
            return [int(word) if sign == "N" else word for sign, word in zip(form, behind)]
    return None


def _fits(sign, word):
    return word != "" and (sign != "N" or is_numeral(word, MAX_DIGITS))


def _wants(chest, row):
    """The wants of a row; raises InvalidRow if a character is no sign."""
    return Wants.of(chest.case.font, "" if row == NO_SIGNS else row)
