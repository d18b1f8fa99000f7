"""Plain looks at boards: which gets show a row, what they cost, and the least cost of all gets."""

import itertools

from papers import is_numbers, is_tuple, is_whole, is_written


def plates_on(case, hung):
    """From all plates, as gets, to (kind, how many there are)."""
    plates = {("hook", at): (plate[0], 1) for at, plate in enumerate(hung) if plate is not None}
    plates.update({("case", kind): (kind, count) for kind, count in case.plates})
    return plates


def shows_sign(case, kind, sign):
    return sign in case.font.shown(kind)


def price_of(hung, costs, hook, get, sign):
    """The cost of one plate at one hook."""
    if get[0] == "case":
        return costs[2]
    cost = costs[1] if get[1] != hook else 0
    return cost + costs[0] if hung[get[1]][1] != sign else cost


def plain_cost(hung, row, costs, gets):
    return sum(price_of(hung, costs, hook, get, row[hook]) for hook, get in enumerate(gets) if get is not None)


def first_wrong(case, hung, row, gets):
    """The first hook with a wrong entry, None if the gets show the row; kinds are as they are kept."""
    plates = plates_on(case, hung)
    for hook, get in enumerate(gets):
        if row[hook] == ".":
            fits = get is None
        else:
            fits = is_tuple(get, 2) and type(get[0]) is str and type(get[1]) in (str, int) and get in plates
            fits = fits and shows_sign(case, plates[get][0], row[hook]) and gets[:hook + 1].count(get) <= plates[get][1]
        if not fits:
            return hook
    return None


def all_gets(case, hung, row):
    """All gets by which the row is shown."""
    choices = [[None] if sign == "." else list(plates_on(case, hung)) for sign in row]
    for gets in itertools.product(*choices):
        if first_wrong(case, hung, row, gets) is None:
            yield gets


def is_right_paper(case, hung, row, costs, cost, paper):
    """Whether a value is a paper that shows that no gets cost less."""
    if not is_tuple(paper, 3) or not is_tuple(paper[0], len(row)) or not is_tuple(paper[1], len(row)):
        return False
    ys, zs, ws = paper
    if not all(y is None if sign == "." else is_whole(y) for y, sign in zip(ys, row)):
        return False
    if not all(z is None if plate is None else is_whole(z, 0) for z, plate in zip(zs, hung)):
        return False
    if not is_numbers(ws, case.kinds) or len(ws) != len(case.kinds):
        return False
    for get, (kind, _) in plates_on(case, hung).items():
        extra = ws[kind] if get[0] == "case" else zs[get[1]]
        for hook, sign in enumerate(row):
            if sign != "." and shows_sign(case, kind, sign) and ys[hook] > price_of(hung, costs, hook, get, sign) + extra:
                return False
    total = sum(y for y in ys if y is not None) - sum(z for z in zs if z is not None)
    return cost == total - sum(ws[kind] * case[kind] for kind in ws)


def is_right_change(case, hung, row, costs, value):
    """Whether a value is a cheapest change, or a set that shows that there is none, by the words of the document."""
    if is_tuple(value, 2, "lack"):
        return is_written(case.font, value[1]) and is_board_lack(case, hung, row, value[1])
    if not is_tuple(value, 4, "change") or not is_whole(value[1]) or not is_tuple(value[2], len(row)):
        return False
    _, cost, gets, paper = value
    if first_wrong(case, hung, row, gets) is not None or cost != plain_cost(hung, row, costs, gets):
        return False
    return is_right_paper(case, hung, row, costs, cost, paper)


def is_board_lack(case, hung, row, signs):
    bearing = 0
    for kind, count in plates_on(case, hung).values():
        if any(shows_sign(case, kind, sign) for sign in signs):
            bearing += count
    return sum(row.count(sign) for sign in signs) > bearing
