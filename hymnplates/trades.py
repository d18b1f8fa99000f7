"""Trades: which plates are bought and which are sold at the least cost, so that the wants of two Sundays hang.

A plate that is used leads from the sign that it shows on the first Sunday to the one of the second Sunday, where a
Sunday on which it shows nothing is the place "idle"; a plate of the case that is used costs the worth that it would
have brought, one that is bought its price.
"""

from hymnplates.checks import is_integer
from hymnplates.errors import InvalidWorths
from hymnplates.flows import Network
from hymnplates.fonts import all_kinds, check_fonts
from hymnplates.masks import excesses_of, excesses_over, signs_of, worst_masks
from hymnplates.offers import excesses_beside
from hymnplates.prices import (amount_of, amount_wanted, check_prices, is_bought, is_lasting_lack, is_sold, is_worths,
                               plates_without)
from hymnplates.worths import is_price_list, list_price


def trade(case, first, second, prices, worths=None):
    """("trade", the least cost, what is bought, what is sold, two price lists), or ("lack", 0 or 1, signs)."""
    full = _kept_worths(case, first, second, prices, worths)
    for which, wants in enumerate([first, second]):
        lack = _lasting_lack(case, wants, prices)
        if lack is not None:
            return "lack", which, lack
    network, uses = _network(case, first, second, prices, full)
    network.send("start", "end")
    used = {kind: sum([network.flow(arc) for arc in uses[kind]]) for kind in uses}
    bought = {kind: used[kind] - case[kind] for kind in used if used[kind] > case[kind]}
    # What is worth nothing stays.
    free = {kind: count - used[kind] for kind, count in case.plates if full.get(kind, 0) > 0}
    sold = {kind: free[kind] for kind in free if free[kind] > 0}
    cost = amount_of(bought, prices) - amount_of(sold, full)
    return "trade", cost, bought, sold, _price_lists(case.font, network)


def is_trade(case, first, second, prices, worths, value):
    """Whether any value is a best trade with its cost and two price lists, or a lack that no trade mends."""
    full = _kept_worths(case, first, second, prices, worths)
    if not isinstance(value, tuple):
        return False
    if len(value) == 3:
        return value[0] == "lack" and _is_lack_of_one(case, (first, second), prices, value[1:])
    if len(value) != 5 or value[0] != "trade" or not is_integer(value[1]) or not _are_price_lists(case.font, value[4]):
        return False
    _, cost, bought, sold, lists = value
    if not is_bought(prices, bought) or not is_sold(case, sold):
        return False
    if cost != amount_of(bought, prices) - amount_of(sold, full):
        return False
    plates = plates_without(case, sold) + list(bought.items())
    if any([max(excesses_over(plates, wants)) > 0 for wants in (first, second)]):
        return False
    if any([_both_prices(case.font, lists, kind) > prices[kind] for kind in prices]):
        return False
    values = sum([count * max(full.get(kind, 0), _both_prices(case.font, lists, kind)) for kind, count in case.plates])
    return cost == amount_wanted(first, lists[0]) + amount_wanted(second, lists[1]) - values


def _kept_worths(case, first, second, prices, worths):
    """The worths, none if they are left out; raises the errors of the arguments."""
    check_fonts(case.font, first.font)
    check_fonts(case.font, second.font)
    check_prices(case.font, prices)
    if worths is None:
        return {}
    if not is_worths(case.font, worths) or any([worths[kind] > prices.get(kind, worths[kind]) for kind in worths]):
        raise InvalidWorths(worths)
    return worths


def _lasting_lack(case, wants, prices):
    """A lack of which no kind of the prices shows a sign, or None."""
    excesses = excesses_of(case, wants)
    for kind in prices:
        excesses = excesses_beside(case.font, excesses, kind, None)
    greatest, least, _ = worst_masks(excesses)
    return signs_of(case.font, least) if greatest > 0 else None


def _is_lack_of_one(case, both, prices, value):
    """Whether two values are 0 or 1, and a lack of the first or the second wants that no trade mends."""
    which, signs = value
    if not is_integer(which) or which not in (0, 1):
        return False
    return is_lasting_lack(case, both[which], prices, signs)


def _network(case, first, second, prices, worths):
    """The network, with places for the signs of both Sundays, and from each kind to the arcs of its plates."""
    network = Network(first.total + second.total)
    for sign in case.font.signs:
        network.add_arc("start", ("first", sign), first[sign], 0)
        network.add_arc(("second", sign), "end", second[sign], 0)
    network.add_arc("start", "idle", second.total, 0)
    network.add_arc("idle", "end", first.total, 0)
    uses = {}
    for kind in all_kinds(case.font):
        if kind in case or kind in prices:
            _add_sides(network, case.font, kind)
            uses[kind] = [network.add_arc(("from", kind), ("to", kind), case[kind], worths.get(kind, 0))]
        if kind in prices:
            uses[kind].append(network.add_arc(("from", kind), ("to", kind), None, prices[kind]))
    return network, uses


def _add_sides(network, font, kind):
    """Adds the arcs from all that plates of the kind show on the first Sunday to all that they show on the second."""
    network.add_arc("idle", ("from", kind), None, 0)
    network.add_arc(("to", kind), "idle", None, 0)
    for sign in font.shown(kind):
        network.add_arc(("first", sign), ("from", kind), None, 0)
        network.add_arc(("to", kind), ("second", sign), None, 0)


def _price_lists(font, network):
    """A sign costs what its place lies before or behind the idle one; nothing if it lies on the other side of it."""
    idle = network.level("idle")
    first = {sign: max(0, idle - network.level(("first", sign))) for sign in font.signs}
    second = {sign: max(0, network.level(("second", sign)) - idle) for sign in font.signs}
    return first, second


def _are_price_lists(font, value):
    """Whether any value is a tuple of two price lists."""
    return isinstance(value, tuple) and len(value) == 2 and all([is_price_list(font, one) for one in value])


def _both_prices(font, lists, kind):
    """The sum of the two list prices of a kind."""
    return sum([list_price(font, one, kind) for one in lists])
