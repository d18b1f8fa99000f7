"""Edits as tuples, the timelines along which they are undone and redone, and trials of them."""

from hymnplates.cases import Case
from hymnplates.checks import GREATEST, is_number
from hymnplates.errors import (InvalidEdit, InvalidGets, InvalidKind, InvalidNumber, InvalidRow, OutOfRange, TooFew,
                               TooMany, Unhung)

# The edits of a case, and how many arguments each has.
CASE_EDITS = (("put", 2), ("take", 2), ("paint", 3))


def is_edit(value, edits):
    """Whether any value is a tuple with the name of one of the edits and its arguments, whatever these are."""
    return isinstance(value, tuple) and len(value) > 0 and (value[0], len(value) - 1) in edits


def kept_edit(font, edit):
    """The edit with its kinds as they are kept; raises InvalidKind or InvalidNumber for its arguments."""
    name, *kinds, count = edit
    kept = [font.kept(kind) for kind in kinds]
    if not is_number(count, 1, GREATEST):
        raise InvalidNumber(count)
    return (name, *kept, count)


def edited(case, edit):
    """The case after an edit with its kinds as they are kept; raises TooFew or TooMany."""
    name, kind, *others, count = edit
    plates = Case(case.font, [(kind, count)])
    if name == "put":
        return case | plates
    left = case - plates
    if name == "take":
        return left
    return left | Case(case.font, [(others[0], count)])


class Timeline:
    """States, and the edits that led from each to the next; undone ones stand behind the present state."""

    def __init__(self, states, edits, at):
        self._states = list(states)
        self._edits = list(edits)
        self._at = at

    @property
    def present(self):
        """The present state."""
        return self._states[self._at]

    @property
    def undoable(self):
        """How many edits can be undone."""
        return self._at

    @property
    def redoable(self):
        """How many edits can be redone."""
        return len(self._edits) - self._at

    def performed(self):
        """The edits that were performed and not undone."""
        return self._edits[:self._at]

    def copied(self):
        """The same timeline, to be changed without this one."""
        return Timeline(self._states, self._edits, self._at)

    def go_on(self, edit, state):
        """An edit leads on to a state; what was undone is gone."""
        del self._edits[self._at:]
        del self._states[self._at + 1:]
        self._edits.append(edit)
        self._states.append(state)
        self._at = self._at + 1

    def state_after(self, steps):
        """The state so many edits later, or earlier if the number is negative."""
        return self._states[self._at + steps]

    def move(self, steps):
        """Goes so many edits on, or back if the number is negative."""
        self._at = self._at + steps


class Record:
    """What is edited: its present state, how it came to be, and trials.

    The classes below have the methods of the interface in their own bodies. They tell by `_is_edit` what has the form
    of an edit, and by `_led` to which state it leads; `_admit` may refuse states, and `_tally` is told what is done.
    """

    def __init__(self, state):
        self._timeline = Timeline([state], [], 0)
        self._depth = 0

    def _is_edit(self, value):
        """Whether any value has the form of an edit."""
        return is_edit(value, CASE_EDITS)

    def _led(self, state, edit):
        """(the edit as it is kept, the state after it); raises the errors of the edit."""
        kept = kept_edit(state.font, edit)
        return kept, edited(state, kept)

    def _admit(self, state):
        """Raises an error if the present state must not become this one."""

    def _tally(self, name, many):
        """Is told how often a method was performed."""

    def _perform(self, *edit):
        kept, state = self._led(self._timeline.present, edit)
        self._admit(state)
        self._go_on([(kept, state)])

    def _perform_all(self, edits):
        state = self._timeline.present
        steps = []
        for index, edit in enumerate(edits):
            if not self._is_edit(edit):
                raise InvalidEdit(index)
            try:
                kept, state = self._led(state, edit)
                self._admit(state)
            except (InvalidKind, InvalidNumber, InvalidRow, InvalidGets, TooFew, TooMany, Unhung):
                raise InvalidEdit(index) from None
            steps.append((kept, state))
        self._go_on(steps)

    def _go_on(self, steps):
        for edit, state in steps:
            self._timeline.go_on(edit, state)
            self._tally(edit[0], 1)

    def _undo(self, count):
        if not is_number(count, 1, self._timeline.undoable):
            raise OutOfRange(count)
        self._move("undo", -count)

    def _redo(self, count):
        if not is_number(count, 1, self._timeline.redoable):
            raise OutOfRange(count)
        self._move("redo", count)

    def _move(self, name, steps):
        self._admit(self._timeline.state_after(steps))
        self._timeline.move(steps)
        self._tally(name, abs(steps))

    def _try_out(self, action, keeps):
        depth = self._depth
        # The action goes on along a copy, so that the timeline stays what it was.
        timeline = self._timeline
        self._timeline = timeline.copied()
        self._depth = depth + 1
        try:
            result = action(self)
            if keeps:
                timeline = self._timeline
        finally:
            self._timeline = timeline
            self._depth = depth
        return result
