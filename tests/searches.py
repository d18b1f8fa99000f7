"""Plain searches over small cases, and plain sums over all sets of signs, to hold the program against."""

import itertools
import random

from hymnplates.cases import Case
from hymnplates.fonts import Font, all_kinds, all_sets
from hymnplates.wants import Wants

FONTS = [
    Font("01"), Font("10", [("0", "1")]), Font("01", [("0", "0")]), Font("069", [("6", "9")]), Font("b8a", [("b", "a")]),
    Font("0689", [("6", "9"), ("8", "8")]), Font("dcba", [("a", "d"), ("b", "c")]), Font("0123"),
]


def small_cases(seed, many, plates=4):
    """So many cases with few plates, in many fonts; always the same ones."""
    chance = random.Random(seed)
    for at in range(many):
        font = FONTS[at % len(FONTS)]
        counts = {}
        for _ in range(chance.randrange(plates + 1)):
            kind = chance.choice(all_kinds(font))
            counts[kind] = counts.get(kind, 0) + 1
        yield Case(font, list(counts.items()))


def small_wants(font, most):
    """All wants of at most so many signs."""
    for counts in itertools.product(range(most + 1), repeat=len(font)):
        if sum(counts) <= most:
            yield Wants(font, dict(zip(font.signs, counts)))


def large_cases(seed, many, fonts=()):
    """So many cases with counts up to 10 ** 30."""
    chance = random.Random(seed)
    fonts = fonts or [*FONTS, Font("012345", [("2", "5")]), Font("zyxw", [("z", "z"), ("y", "w")])]
    for at in range(many):
        font = fonts[at % len(fonts)]
        kinds = chance.sample(all_kinds(font), chance.randrange(1, min(12, len(all_kinds(font)))))
        yield Case(font, [(kind, chance.choice([1, 10 ** 30, chance.randrange(1, 10 ** 30)])) for kind in kinds])


def large_wants(chance, case):
    """Wants of which many hang in the case, often just so."""
    counts = {sign: 0 for sign in case.font.signs}
    for kind, count in case.plates:
        left = count
        for sign in chance.sample(case.font.shown(kind), len(case.font.shown(kind))):
            part = chance.choice([0, left, chance.randrange(left + 1)])
            counts[sign] += part
            left -= part
    more = chance.choice([0, 0, 1, chance.randrange(10 ** 29)])
    counts[chance.choice(case.font.signs)] += more
    return Wants(case.font, counts)


def ways_of_kind(case, kind):
    """All ways for the plates of a kind: from signs to how many plates show them; the others show nothing."""
    signs = case.font.shown(kind)
    for counts in itertools.product(range(case[kind] + 1), repeat=len(signs)):
        if sum(counts) <= case[kind]:
            yield {(kind, sign): count for sign, count in zip(signs, counts) if count}


def all_ways(case):
    """All ways in which each plate shows a sign or none, as plans are written."""
    for ways in itertools.product(*[list(ways_of_kind(case, kind)) for kind in case.kinds]):
        yield {use: count for way in ways for use, count in way.items()}


def shown_by(font, way):
    """How often each sign is shown, in a tuple."""
    return tuple(sum(count for (_, shown), count in way.items() if shown == sign) for sign in font.signs)


def wanted_by(wants):
    return tuple(wants[sign] for sign in wants.font.signs)


def ways_by_counts(case):
    """From what is shown to all ways that show just this."""
    ways = {}
    for way in all_ways(case):
        ways.setdefault(shown_by(case.font, way), []).append(way)
    return ways


def excess(case, wants, signs):
    """Want minus bearing of a set, from single kinds and signs."""
    bearing = sum(count for kind, count in case.plates if set(case.font.shown(kind)) & set(signs))
    return sum(wants[sign] for sign in signs) - bearing


def plain_worst_sets(case, wants):
    """All worst sets, in order."""
    excesses = {signs: excess(case, wants, signs) for signs in all_sets(case.font)}
    return [signs for signs in excesses if excesses[signs] == max(excesses.values())]


def plain_shortage(case, wants):
    worst = plain_worst_sets(case, wants)
    least = [sign for sign in case.font.signs if all(sign in signs for signs in worst)]
    greatest = [sign for sign in case.font.signs if any(sign in signs for signs in worst)]
    return max(excess(case, wants, signs) for signs in worst), "".join(least), "".join(greatest)


def is_right_plan(case, wants, plan):
    """Whether a dict that has the form of a plan is one."""
    for kind, sign in plan:
        if sign not in case.font.shown(kind) or plan[kind, sign] < 1:
            return False
    used = {kind: sum(plan[use] for use in plan if use[0] == kind) for kind, _ in plan}
    return all(used[kind] <= case[kind] for kind in used) and shown_by(case.font, plan) == wanted_by(wants)
