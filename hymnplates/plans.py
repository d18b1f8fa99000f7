"""Plans: which plates show which signs, found by passing signs on from plate to plate."""


def find_plan(supplies, counts):
    """A dict from (kind, sign) to numbers from 1 on, so that each sign is shown as often as the counts say.

    Supplies are tuples (kind, signs that it may show, number of plates), each kind once. There must be such a plan.
    """
    uses = [{sign: 0 for sign in signs} for kind, signs, number in supplies]
    free = [number for kind, signs, number in supplies]
    for wanted in counts:
        left = counts[wanted]
        while left > 0:
            left = left - _show_more(uses, free, wanted, left)
    rows = [(supply[0], use) for supply, use in zip(supplies, uses)]
    return {(kind, shown): use[shown] for kind, use in rows for shown in use if use[shown] > 0}


def _show_more(uses, free, wanted, most):
    """Shows the wanted sign more often, at most so often; returns how often."""
    last, spare, steps = _way_to_free_plates(uses, free, wanted)
    number = min([most, free[spare]] + [uses[at][giver] for taker, at, giver in steps])
    for taker, at, giver in steps:
        uses[at][taker] = uses[at][taker] + number
        uses[at][giver] = uses[at][giver] - number
    uses[spare][last] = uses[spare][last] + number
    free[spare] = free[spare] - number
    return number


def _way_to_free_plates(uses, free, wanted):
    """(last sign, a supply with free plates for it, steps from the wanted sign to the last one, backwards).

    In a step (taker, supply, giver) plates of the supply that show the giver are to show the taker instead.
    """
    came = {wanted: None}
    queue = [wanted]
    at = 0
    # The nearest signs come first: only shortest ways keep their number from growing with the numbers of plates.
    while True:
        taker = queue[at]
        at = at + 1
        for supply, use in enumerate(uses):
            if taker not in use:
                continue
            if free[supply] > 0:
                return taker, supply, _steps_back(came, taker)
            for giver in use:
                if use[giver] > 0 and giver not in came:
                    came[giver] = (taker, supply)
                    queue.append(giver)


def _steps_back(came, last):
    steps = []
    giver = last
    while came[giver] is not None:
        taker, supply = came[giver]
        steps.append((taker, supply, giver))
        giver = taker
    return steps
