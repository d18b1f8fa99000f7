"""Chests: cases that are edited, with a history and trials; guarded ones keep wants hanging, counted ones count."""

from hymnplates.edits import Record
from hymnplates.errors import Unhung
from hymnplates.fonts import check_fonts
from hymnplates.hanging import least_lack

# In their alphabetical order.
COUNTED = ("paint", "put", "redo", "take", "undo")


def check_wants(case, wants):
    """Raises OtherFont if a font differs, then Unhung for the first of the wants that do not hang."""
    for one in wants:
        check_fonts(case.font, one.font)
    check_hung(case, wants)


def check_hung(case, wants):
    """Raises Unhung for the first of the wants that do not hang."""
    for index, one in enumerate(wants):
        lack = least_lack(case, one)
        if lack is not None:
            raise Unhung(index, lack)


class Chest(Record):
    """A case that is edited.

    The interface lists the methods for each class of chests; so the classes below have them in their own bodies, and
    differ from this one in `_admit` and `_tally`.
    """

    def __init__(self, case):
        super().__init__(case)

    @property
    def case(self):
        """The present case."""
        return self._timeline.present

    @property
    def depth(self):
        """The number of trials in progress."""
        return self._depth

    def __eq__(self, other):
        return isinstance(other, Chest) and self.case == other.case

    def put(self, kind, count):
        """Adds plates."""
        self._perform("put", kind, count)

    def take(self, kind, count):
        """Takes plates out."""
        self._perform("take", kind, count)

    def paint(self, kind, other, count):
        """Makes plates of one kind plates of another one."""
        self._perform("paint", kind, other, count)

    def apply(self, *edits):
        """Performs edits in turn, all or none."""
        self._perform_all(edits)

    def undo(self, count=1):
        """Undoes the last edits."""
        self._undo(count)

    def redo(self, count=1):
        """Performs the last undone edits again."""
        self._redo(count)

    def history(self):
        """The edits that were performed and not undone."""
        return self._timeline.performed()

    def attempt(self, action):
        """Calls the action with the chest, and takes back what it did if an exception leaves it."""
        return self._try_out(action, True)

    def explore(self, action):
        """Calls the action with the chest, and takes back what it did."""
        return self._try_out(action, False)


class GuardedChest(Chest):
    """A chest with wants that go on hanging."""

    def __init__(self, case, *wants):
        check_wants(case, wants)
        super().__init__(case)
        self._wants = wants

    @property
    def case(self):
        """The present case."""
        return self._timeline.present

    @property
    def depth(self):
        """The number of trials in progress."""
        return self._depth

    @property
    def wants(self):
        """The wants, a tuple."""
        return self._wants

    def __eq__(self, other):
        return isinstance(other, Chest) and self.case == other.case

    def set_wants(self, *wants):
        """Replaces all wants; this is no edit."""
        check_wants(self.case, wants)
        self._wants = wants

    def put(self, kind, count):
        """Adds plates."""
        super().put(kind, count)

    def take(self, kind, count):
        """Takes plates out."""
        super().take(kind, count)

    def paint(self, kind, other, count):
        """Makes plates of one kind plates of another one."""
        super().paint(kind, other, count)

    def apply(self, *edits):
        """Performs edits in turn, all or none."""
        super().apply(*edits)

    def undo(self, count=1):
        """Undoes the last edits."""
        super().undo(count)

    def redo(self, count=1):
        """Performs the last undone edits again."""
        super().redo(count)

    def history(self):
        """The edits that were performed and not undone."""
        return super().history()

    def attempt(self, action):
        """Calls the action with the chest, and takes back what it did if an exception leaves it."""
        return super().attempt(action)

    def explore(self, action):
        """Calls the action with the chest, and takes back what it did."""
        return super().explore(action)

    def _admit(self, case):
        check_hung(case, self._wants)


class CountedChest(Chest):
    """A chest that counts what was performed."""

    def __init__(self, case):
        super().__init__(case)
        self._tallies = {name: 0 for name in COUNTED}

    @property
    def case(self):
        """The present case."""
        return self._timeline.present

    @property
    def depth(self):
        """The number of trials in progress."""
        return self._depth

    @property
    def counts(self):
        """From the names of methods to how often they were performed."""
        return {name: self._tallies[name] for name in COUNTED if self._tallies[name] > 0}

    def __eq__(self, other):
        return isinstance(other, Chest) and self.case == other.case

    def put(self, kind, count):
        """Adds plates."""
        super().put(kind, count)

    def take(self, kind, count):
        """Takes plates out."""
        super().take(kind, count)

    def paint(self, kind, other, count):
        """Makes plates of one kind plates of another one."""
        super().paint(kind, other, count)

    def apply(self, *edits):
        """Performs edits in turn, all or none."""
        super().apply(*edits)

    def undo(self, count=1):
        """Undoes the last edits."""
        super().undo(count)

    def redo(self, count=1):
        """Performs the last undone edits again."""
        super().redo(count)

    def history(self):
        """The edits that were performed and not undone."""
        return super().history()

    def attempt(self, action):
        """Calls the action with the chest, and takes back what it did if an exception leaves it."""
        return super().attempt(action)

    def explore(self, action):
        """Calls the action with the chest, and takes back what it did."""
        return super().explore(action)

    def _tally(self, name, many):
        self._tallies[name] = self._tallies[name] + many


class GuardedCountedChest(GuardedChest, CountedChest):
    """A chest with wants that go on hanging, which counts what was performed."""

    def __init__(self, case, *wants):
        super().__init__(case, *wants)

    @property
    def case(self):
        """The present case."""
        return self._timeline.present

    @property
    def depth(self):
        """The number of trials in progress."""
        return self._depth

    @property
    def wants(self):
        """The wants, a tuple."""
        return self._wants

    @property
    def counts(self):
        """From the names of methods to how often they were performed."""
        return {name: self._tallies[name] for name in COUNTED if self._tallies[name] > 0}

    def __eq__(self, other):
        return isinstance(other, Chest) and self.case == other.case

    def set_wants(self, *wants):
        """Replaces all wants; this is no edit."""
        super().set_wants(*wants)

    def put(self, kind, count):
        """Adds plates."""
        super().put(kind, count)

    def take(self, kind, count):
        """Takes plates out."""
        super().take(kind, count)

    def paint(self, kind, other, count):
        """Makes plates of one kind plates of another one."""
        super().paint(kind, other, count)

    def apply(self, *edits):
        """Performs edits in turn, all or none."""
        super().apply(*edits)

    def undo(self, count=1):
        """Undoes the last edits."""
        super().undo(count)

    def redo(self, count=1):
        """Performs the last undone edits again."""
        super().redo(count)

    def history(self):
        """The edits that were performed and not undone."""
        return super().history()

    def attempt(self, action):
        """Calls the action with the chest, and takes back what it did if an exception leaves it."""
        return super().attempt(action)

    def explore(self, action):
        """Calls the action with the chest, and takes back what it did."""
        return super().explore(action)
