"""Edits of cases as tuples, and the timelines along which they are undone and redone."""

from hymnplates.cases import Case
from hymnplates.checks import GREATEST, is_number
from hymnplates.errors import InvalidNumber

# How many arguments each edit has.
ARGUMENTS = {"put": 2, "take": 2, "paint": 3}


def is_edit(value):
    """Whether any value is a tuple with the name of an edit and so many arguments, whatever these are."""
    if not isinstance(value, tuple) or len(value) == 0 or not isinstance(value[0], str):
        return False
    return value[0] in ARGUMENTS and len(value) == 1 + ARGUMENTS[value[0]]


def kept_edit(font, edit):
    """The edit with its kinds as they are kept; raises InvalidKind or InvalidNumber for its arguments."""
    name, *kinds, count = edit
    kept = [font.kept(kind) for kind in kinds]
    if not is_number(count, 1, GREATEST):
        raise InvalidNumber(count)
    return (name, *kept, count)


def edited(case, edit):
    """The case after an edit with its kinds as they are kept; raises TooFew or TooMany."""
    name, kind, *others, count = edit
    plates = Case(case.font, [(kind, count)])
    if name == "put":
        return case | plates
    left = case - plates
    if name == "take":
        return left
    return left | Case(case.font, [(others[0], count)])


class Timeline:
    """States, and the edits that led from each to the next; undone ones stand behind the present state."""

    def __init__(self, states, edits, at):
        self._states = list(states)
        self._edits = list(edits)
        self._at = at

    @property
    def present(self):
        """The present state."""
        return self._states[self._at]

    @property
    def undoable(self):
        """How many edits can be undone."""
        return self._at

    @property
    def redoable(self):
        """How many edits can be redone."""
        return len(self._edits) - self._at

    def performed(self):
        """The edits that were performed and not undone."""
        return self._edits[:self._at]

    def copied(self):
        """The same timeline, to be changed without this one."""
        return Timeline(self._states, self._edits, self._at)

    def go_on(self, edit, state):
        """An edit leads on to a state; what was undone is gone."""
        del self._edits[self._at:]
        del self._states[self._at + 1:]
        self._edits.append(edit)
        self._states.append(state)
        self._at = self._at + 1

    def state_after(self, steps):
        """The state so many edits later, or earlier if the number is negative."""
        return self._states[self._at + steps]

    def move(self, steps):
        """Goes so many edits on, or back if the number is negative."""
        self._at = self._at + steps
