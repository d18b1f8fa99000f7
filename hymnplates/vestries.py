"""Vestries: a board and the plates that do not hang, edited, with the work that showing rows costs."""

from hymnplates.boards import (EMPTY, MAX_HOOKS, after_show, cost_of_gets, is_board_row, is_costs, kept_get,
                               wrong_get)
from hymnplates.changes import change
from hymnplates.checks import is_listed, is_number
from hymnplates.edits import CASE_EDITS, Record, edited, is_edit, kept_edit
from hymnplates.errors import InvalidCosts, InvalidGets, InvalidNumber, InvalidRow
from hymnplates.fonts import all_kinds

SHOW = ("show", 2)


class Vestry(Record):
    """A board of some hooks, and a case with the plates that do not hang.

    A state is a tuple of the case, what hangs, and the work.
    """

    def __init__(self, case, hooks, costs):
        if not is_number(hooks, 1, MAX_HOOKS):
            raise InvalidNumber(hooks)
        if not is_costs(costs):
            raise InvalidCosts(costs)
        super().__init__((case, (None,) * hooks, 0))
        self._costs = costs

    @property
    def case(self):
        """The plates that do not hang."""
        return self._timeline.present[0]

    @property
    def hung(self):
        """For each hook None, or the kind and the sign that hang there."""
        return self._timeline.present[1]

    @property
    def work(self):
        """The cost of all that was shown."""
        return self._timeline.present[2]

    @property
    def row(self):
        """What is shown."""
        return "".join([EMPTY if plate is None else plate[1] for plate in self.hung])

    @property
    def all_plates(self):
        """From kinds, in their order, to how many plates there are in the case and on hooks."""
        kinds = [plate[0] for plate in self.hung if plate is not None]
        case = self.case
        return {kind: case[kind] + kinds.count(kind) for kind in all_kinds(case.font) if kind in case or kind in kinds}

    @property
    def depth(self):
        """The number of trials in progress."""
        return self._depth

    def __eq__(self, other):
        if not isinstance(other, Vestry) or self._costs != other._costs:
            return False
        return self.case == other.case and self.hung == other.hung and self.work == other.work

    def put(self, kind, count):
        """Adds plates to the case."""
        self._perform("put", kind, count)

    def take(self, kind, count):
        """Takes plates out of the case."""
        self._perform("take", kind, count)

    def paint(self, kind, other, count):
        """Makes plates of one kind, of the case, plates of another one."""
        self._perform("paint", kind, other, count)

    def show(self, row, gets):
        """Shows the row by these gets."""
        self._perform("show", row, gets)

    def apply(self, *edits):
        """Performs edits in turn, all or none."""
        self._perform_all(edits)

    def undo(self, count=1):
        """Undoes the last edits."""
        self._undo(count)

    def redo(self, count=1):
        """Performs the last undone edits again."""
        self._redo(count)

    def history(self):
        """The edits that were performed and not undone."""
        return self._timeline.performed()

    def attempt(self, action):
        """Calls the action with the vestry, and takes back what it did if an exception leaves it."""
        return self._try_out(action, True)

    def explore(self, action):
        """Calls the action with the vestry, and takes back what it did."""
        return self._try_out(action, False)

    def cheapest(self, row):
        """What `change` returns for the row."""
        return change(self.case, self.hung, row, self._costs)

    def _is_edit(self, value):
        return is_edit(value, (*CASE_EDITS, SHOW))

    def _led(self, state, edit):
        case, hung, work = state
        if edit[0] != "show":
            kept = kept_edit(case.font, edit)
            return kept, (edited(case, kept), hung, work)
        _, row, gets = edit
        kept_gets = _kept_gets(case, hung, row, gets)
        left, shown = after_show(case, hung, row, kept_gets)
        cost = cost_of_gets(self._costs, hung, row, kept_gets)
        return ("show", row, kept_gets), (left, shown, work + cost)


def _kept_gets(case, hung, row, gets):
    """The gets with kinds as they are kept, a tuple; raises InvalidRow or InvalidGets."""
    if not is_board_row(case.font, len(hung), row):
        raise InvalidRow(row)
    if not is_listed(gets) or len(gets) != len(hung):
        raise InvalidGets(-1)
    wrong = wrong_get(case, hung, row, gets)
    if wrong != -1:
        raise InvalidGets(wrong)
    return tuple([None if get is None else kept_get(case.font, hung, get) for get in gets])
