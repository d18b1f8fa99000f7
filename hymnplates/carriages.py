"""Carriages: the cheapest way to carry plates between churches so that the wants of each of them hang."""

from hymnplates.cases import Case
from hymnplates.checks import GREATEST, is_integer, is_listed, is_number
from hymnplates.errors import InvalidChurches, InvalidWays
from hymnplates.flows import Network
from hymnplates.fonts import all_kinds, check_fonts, is_set, written_set
from hymnplates.masks import excesses_over
from hymnplates.prices import amount_wanted
from hymnplates.wants import Wants
from hymnplates.worths import is_price_list, list_price

MAX_CHURCHES = 6


def carriage(churches, ways):
    """("carriage", the least cost, what is carried, price lists), or ("lack", sets)."""
    _check_carriage(churches, ways)
    network, arcs = _network(churches, ways)
    if network.send("start", "end") < sum([wants.total for case, wants in churches]):
        return "lack", _lacking_sets(churches, network)
    flows = {key: network.flow(arcs[key]) for key in arcs}
    carried = {key: flows[key] for key in flows if flows[key] > 0}
    return "carriage", _cost(carried, ways), carried, _price_lists(churches, network)


def is_carriage(churches, ways, value):
    """Whether any value is a cheapest carriage with its cost and price lists, or sets that show that none suffices."""
    _check_carriage(churches, ways)
    if not isinstance(value, tuple):
        return False
    if len(value) == 2:
        return value[0] == "lack" and _are_lacking_sets(churches, ways, value[1])
    if len(value) != 4 or value[0] != "carriage" or not is_number(value[1], 0):
        return False
    _, cost, carried, lists = value
    if not _is_carried(churches, ways, carried) or cost != _cost(carried, ways) or not _suffices(churches, carried):
        return False
    return _are_price_lists(churches, lists) and cost == _least_cost(churches, ways, lists)


def _check_carriage(churches, ways):
    """Raises the errors of the arguments."""
    if not is_listed(churches) or not 1 <= len(churches) <= MAX_CHURCHES:
        raise InvalidChurches(churches)
    if not all([_is_church(church) for church in churches]):
        raise InvalidChurches(churches)
    for case, wants in churches:
        check_fonts(churches[0][0].font, case.font)
        check_fonts(case.font, wants.font)
    if not is_listed(ways) or not all([_is_way(way, len(churches)) for way in ways]):
        raise InvalidWays(ways)
    if len({(one, other) for one, other, price in ways}) < len(ways):
        raise InvalidWays(ways)


def _is_church(value):
    if not isinstance(value, tuple) or len(value) != 2:
        return False
    return isinstance(value[0], Case) and isinstance(value[1], Wants)


def _is_way(value, many):
    if not isinstance(value, tuple) or len(value) != 3 or not is_number(value[2], 0, GREATEST):
        return False
    return all([is_number(church, 0, many - 1) for church in value[:2]]) and value[0] != value[1]


def _kinds(churches):
    """The kinds of all plates, in their order."""
    return [kind for kind in all_kinds(churches[0][0].font) if any([kind in case for case, wants in churches])]


def _network(churches, ways):
    """The network from plates over the churches to wanted signs, and from (one, other, kind) to the arcs of ways."""
    network = Network(sum([wants.total for case, wants in churches]))
    font = churches[0][0].font
    kinds = _kinds(churches)
    for at, church in enumerate(churches):
        case, wants = church
        for kind in kinds:
            network.add_arc("start", ("plates", at, kind), case[kind], 0)
            for sign in font.shown(kind):
                network.add_arc(("plates", at, kind), ("sign", at, sign), None, 0)
        for sign in font.signs:
            network.add_arc(("sign", at, sign), "end", wants[sign], 0)
    arcs = {}
    for one, other, price in ways:
        for kind in kinds:
            arcs[(one, other, kind)] = network.add_arc(("plates", one, kind), ("plates", other, kind), None, price)
    return network, arcs


def _lacking_sets(churches, network):
    """The wanted signs to which no more can be sent: all plates that can come there are used there."""
    reached = network.within_reach("start")
    sets = []
    for at, church in enumerate(churches):
        case, wants = church
        sets.append("".join([sign for sign in wants.counts if ("sign", at, sign) not in reached]))
    return sets


def _price_lists(churches, network):
    """A sign costs what its place lies above the start, and nothing if it lies below it."""
    signs = churches[0][0].font.signs
    return [{sign: max(0, network.level(("sign", at, sign))) for sign in signs} for at in range(len(churches))]


def _cost(carried, ways):
    """The cost of what is carried along ways."""
    prices = {(one, other): price for one, other, price in ways}
    return sum([carried[key] * prices[key[:2]] for key in carried])


def _distances(churches, ways):
    """From (one, other) to the distance, for each two churches that have one."""
    many = len(churches)
    far = {(at, at): 0 for at in range(many)}
    for one, other, price in ways:
        far[(one, other)] = price
    for between in range(many):
        for one in range(many):
            for other in range(many):
                if (one, between) in far and (between, other) in far:
                    by_it = far[(one, between)] + far[(between, other)]
                    far[(one, other)] = min(by_it, far.get((one, other), by_it))
    return far


def _is_carried(churches, ways, value):
    """Whether any value is what is carried along the ways, as a dict."""
    if not isinstance(value, dict):
        return False
    kinds = all_kinds(churches[0][0].font)
    pairs = [(one, other) for one, other, price in ways]
    return all([_is_load(pairs, kinds, key) and is_number(value[key], 1) for key in value])


def _is_load(pairs, kinds, value):
    """Whether any value is (one, other, kind) for a way and a kind as it is kept."""
    if not isinstance(value, tuple) or len(value) != 3 or not all([is_integer(church) for church in value[:2]]):
        return False
    return value[:2] in pairs and isinstance(value[2], str) and value[2] in kinds


def _suffices(churches, carried):
    """Whether there are plates for all that leaves, and the wants of each church hang."""
    plates = [{kind: case[kind] for kind in all_kinds(case.font)} for case, wants in churches]
    for key in carried:
        one, other, kind = key
        plates[one][kind] = plates[one][kind] - carried[key]
        plates[other][kind] = plates[other][kind] + carried[key]
    if any([here[kind] < 0 for here in plates for kind in here]):
        return False
    return all([max(excesses_over(list(here.items()), church[1])) == 0 for here, church in zip(plates, churches)])


def _are_price_lists(churches, value):
    """Whether any value is a list of price lists, one for each church."""
    if not isinstance(value, list) or len(value) != len(churches):
        return False
    return all([is_price_list(church[0].font, one) for church, one in zip(churches, value)])


def _least_cost(churches, ways, lists):
    """What no carriage costs less than, by the price lists."""
    far = _distances(churches, ways)
    total = 0
    for at, church in enumerate(churches):
        case, wants = church
        total = total + amount_wanted(wants, lists[at])
        for kind, count in case.plates:
            values = [list_price(case.font, lists[other], kind) - far[(at, other)] for other in range(len(churches))
                      if (at, other) in far]
            total = total - count * max(values)
    return total


def _are_lacking_sets(churches, ways, value):
    """Whether any value is sets that are wanted more often than plates that show their signs can come there."""
    if not isinstance(value, list) or len(value) != len(churches):
        return False
    font = churches[0][0].font
    if not all([is_set(font.signs, signs) and written_set(font, signs) == signs for signs in value]):
        return False
    far = _distances(churches, ways)
    plates = 0
    for at, church in enumerate(churches):
        near = "".join([signs for other, signs in enumerate(value) if (at, other) in far])
        plates = plates + sum([count for kind, count in church[0].plates
                               if any([sign in near for sign in font.shown(kind)])])
    return sum([church[1].want(signs) for church, signs in zip(churches, value)]) > plates
