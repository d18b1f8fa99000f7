"""Boards: what hangs on their hooks, rows for them, and what it costs to show a row by plates that hang or are fetched.

A plate on a hook is a tuple (kind, sign); what a hook gets is None, ("hook", index) or ("case", kind).
"""

from hymnplates.cases import Case
from hymnplates.checks import GREATEST, is_listed, is_number
from hymnplates.errors import TooMany
from hymnplates.fonts import all_kinds, is_kind, is_sign

MAX_HOOKS = 20
EMPTY = "."


def kept_hung(font, value):
    """What hangs, with kinds as they are kept, or None for any value that is not what hangs on a board."""
    if not is_listed(value) or not 1 <= len(value) <= MAX_HOOKS:
        return None
    if not all([plate is None or _is_plate(font, plate) for plate in value]):
        return None
    return tuple([None if plate is None else (font.kept(plate[0]), plate[1]) for plate in value])


def _is_plate(font, value):
    if not isinstance(value, tuple) or len(value) != 2 or not is_kind(font.signs, value[0]):
        return False
    return is_sign(font.shown(value[0]), value[1])


def is_board_row(font, hooks, value):
    """Whether any value is a row for a board with so many hooks."""
    return isinstance(value, str) and len(value) == hooks and all([sign in font.signs + EMPTY for sign in value])


def is_costs(value):
    """Whether any value is costs."""
    return isinstance(value, tuple) and len(value) == 3 and all([is_number(cost, 0, GREATEST) for cost in value])


def kept_get(font, hung, value):
    """What a hook gets, with its kind as it is kept, or None for any value that names no plate there could be."""
    if not isinstance(value, tuple) or len(value) != 2:
        return None
    source, name = value
    if source == "hook" and is_number(name, 0, len(hung) - 1) and hung[name] is not None:
        return "hook", name
    if source == "case" and is_kind(font.signs, name):
        return "case", font.kept(name)
    return None


def wrong_get(case, hung, row, gets):
    """The first hook whose get, any value, is not as the row needs it, or -1; there are as many gets as hooks."""
    left = {("case", kind): count for kind, count in case.plates}
    for at, plate in enumerate(hung):
        left[("hook", at)] = 0 if plate is None else 1
    for hook, value in enumerate(gets):
        if row[hook] != EMPTY:
            get = kept_get(case.font, hung, value)
            if get is None or left.get(get, 0) == 0 or row[hook] not in case.font.shown(got_kind(hung, get)):
                return hook
            left[get] = left[get] - 1
        elif value is not None:
            return hook
    return -1


def got_kind(hung, get):
    """The kind of the plate that a hook gets."""
    source, name = get
    return name if source == "case" else hung[name][0]


def got_cost(costs, hung, get, hook, sign):
    """What it costs that this hook gets this plate and shows the sign."""
    turn, move, fetch = costs
    source, name = get
    if source == "case":
        return fetch
    return (move if name != hook else 0) + (turn if hung[name][1] != sign else 0)


def cost_of_gets(costs, hung, row, gets):
    """The sum of the costs of the gets, which are as the row needs them."""
    return sum([got_cost(costs, hung, get, hook, row[hook]) for hook, get in enumerate(gets) if get is not None])


def after_show(case, hung, row, gets):
    """(the case, what hangs) after the row is shown by these gets, with kinds as they are kept; raises TooMany."""
    kept = [get[1] for get in gets if get is not None and get[0] == "hook"]
    freed = [plate[0] for hook, plate in enumerate(hung) if plate is not None and hook not in kept]
    fetched = [get[1] for get in gets if get is not None and get[0] == "case"]
    plates = []
    for kind in all_kinds(case.font):
        count = case[kind] + freed.count(kind) - fetched.count(kind)
        if count > Case.MAX_COUNT:
            raise TooMany(kind)
        if count > 0:
            plates.append((kind, count))
    shown = [None if get is None else (got_kind(hung, get), sign) for get, sign in zip(gets, row)]
    return Case(case.font, plates), tuple(shown)
