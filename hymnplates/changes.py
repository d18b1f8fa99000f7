"""Changes: the cheapest way to show a row on a board, by plates that hang on it and plates of the case."""

from hymnplates.boards import (EMPTY, cost_of_gets, got_cost, got_kind, is_board_row, is_costs, kept_get, kept_hung,
                               wrong_get)
from hymnplates.checks import is_integer, is_number, is_table
from hymnplates.errors import InvalidCosts, InvalidHung, InvalidRow
from hymnplates.flows import Network
from hymnplates.fonts import is_set, written_set
from hymnplates.masks import excesses_over, signs_of, worst_masks
from hymnplates.wants import Wants


def change(case, hung, row, costs):
    """("change", the least cost, gets, a paper that shows it), or ("lack", signs)."""
    kept = _checked_hung(case, hung, row, costs)
    wants = Wants.of(case.font, row.replace(EMPTY, ""))
    greatest, least, _ = worst_masks(excesses_over(_all_plates(case, kept), wants))
    if greatest > 0:
        return "lack", signs_of(case.font, least)
    network, arcs = _network(case, kept, row, costs)
    network.send("start", "end")
    gets = [None] * len(row)
    for hook, get, arc in arcs:
        if network.flow(arc) > 0:
            gets[hook] = get
    return "change", cost_of_gets(costs, kept, row, gets), tuple(gets), _paper(case, kept, row, network)


def is_change(case, hung, row, costs, value):
    """Whether any value is a cheapest change with its cost and paper, or a lack that shows that there is none."""
    kept = _checked_hung(case, hung, row, costs)
    if not isinstance(value, tuple):
        return False
    if len(value) == 2:
        return value[0] == "lack" and _is_board_lack(case, kept, row, value[1])
    if len(value) != 4 or value[0] != "change" or not is_integer(value[1]):
        return False
    _, cost, gets, paper = value
    if not _are_gets(case, kept, row, gets) or cost != cost_of_gets(costs, kept, row, gets):
        return False
    return _is_paper(case, kept, row, paper) and _shows(case, kept, row, costs, cost, paper)


def _checked_hung(case, hung, row, costs):
    """What hangs, with kinds as they are kept; raises the errors of the arguments."""
    kept = kept_hung(case.font, hung)
    if kept is None:
        raise InvalidHung(hung)
    if not is_board_row(case.font, len(kept), row):
        raise InvalidRow(row)
    if not is_costs(costs):
        raise InvalidCosts(costs)
    return kept


def _all_plates(case, hung):
    """Tuples (kind, count) of the plates of the case and of those on hooks."""
    return list(case.plates) + [(plate[0], 1) for plate in hung if plate is not None]


def _all_gets(case, hung):
    """All that a hook could get."""
    hooks = [("hook", at) for at, plate in enumerate(hung) if plate is not None]
    return hooks + [("case", kind) for kind in case.kinds]


def _fitting_gets(case, hung, row):
    """Tuples (hook, get) of all plates that can show the sign of the row at the hook."""
    gets = _all_gets(case, hung)
    hooks = [hook for hook, sign in enumerate(row) if sign != EMPTY]
    return [(hook, get) for hook in hooks for get in gets if row[hook] in case.font.shown(got_kind(hung, get))]


def _network(case, hung, row, costs):
    """The network from plates to the hooks that need one, and tuples (hook, get, arc)."""
    network = Network(len(row.replace(EMPTY, "")))
    for get in _all_gets(case, hung):
        network.add_arc("start", get, case[get[1]] if get[0] == "case" else 1, 0)
    for hook, sign in enumerate(row):
        network.add_arc(hook, "end", 0 if sign == EMPTY else 1, 0)
    arcs = []
    for hook, get in _fitting_gets(case, hung, row):
        arcs.append((hook, get, network.add_arc(get, hook, None, got_cost(costs, hung, get, hook, row[hook]))))
    return network, arcs


def _paper(case, hung, row, network):
    """The levels are the paper; a plate that lies below the start is one too many, and costs nothing."""
    hooks = tuple([None if sign == EMPTY else network.level(hook) for hook, sign in enumerate(row)])
    plates = tuple([None if plate is None else max(0, network.level(("hook", at))) for at, plate in enumerate(hung)])
    return hooks, plates, {kind: max(0, network.level(("case", kind))) for kind in case.kinds}


def _is_board_lack(case, hung, row, value):
    """Whether any value is a set of signs that the row has more often than plates can show them."""
    font = case.font
    if not is_set(font.signs, value) or written_set(font, value) != value:
        return False
    plates = _all_plates(case, hung)
    bearing = sum([count for kind, count in plates if any([sign in value for sign in font.shown(kind)])])
    return len([sign for sign in row if sign in value]) > bearing


def _are_gets(case, hung, row, value):
    """Whether any value is gets by which the row is shown, with kinds as they are kept."""
    if not isinstance(value, tuple) or len(value) != len(row) or wrong_get(case, hung, row, value) != -1:
        return False
    return all([get is None or kept_get(case.font, hung, get) == get for get in value])


def _is_paper(case, hung, row, value):
    """Whether any value has the form of a paper."""
    if not isinstance(value, tuple) or len(value) != 3:
        return False
    hooks, plates, kinds = value
    if not _is_for(hooks, [sign != EMPTY for sign in row]) or not all([y is None or is_integer(y) for y in hooks]):
        return False
    if not _is_for(plates, [plate is not None for plate in hung]):
        return False
    if not all([z is None or is_number(z, 0) for z in plates]):
        return False
    return is_table(kinds, case.kinds) and len(kinds) == len(case.kinds)


def _is_for(value, places):
    """Whether any value is a tuple that has None just at the other places."""
    if not isinstance(value, tuple) or len(value) != len(places):
        return False
    return all([(one is not None) == wanted for one, wanted in zip(value, places)])


def _shows(case, hung, row, costs, cost, paper):
    """Whether the paper shows that no gets cost less."""
    hooks, plates, kinds = paper
    for hook, get in _fitting_gets(case, hung, row):
        source, name = get
        more = kinds[name] if source == "case" else plates[name]
        if hooks[hook] > got_cost(costs, hung, get, hook, row[hook]) + more:
            return False
    shown = sum([y for y in hooks if y is not None]) - sum([z for z in plates if z is not None])
    return cost == shown - sum([kinds[kind] * case[kind] for kind in kinds])
