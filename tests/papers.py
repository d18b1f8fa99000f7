"""Values with one part changed, and plain looks at the forms and sums that the document describes in its part 4."""

import itertools
import random

from hymnplates.fonts import all_kinds, all_sets


def variants(value):
    """Values that have one part another one, of the same or of another kind."""
    if isinstance(value, int) and not isinstance(value, bool):
        yield from [value + 1, value - 1, -value, 10 ** 40, 0, True, False, None, str(value), float(value), [value]]
    elif isinstance(value, str):
        yield from [value[::-1], value[:-1], value + value[-1:], value + "0", "", "-", None, 0, [value], (value,)]
    elif value is None:
        yield from [0, False, "", (), ("hook", 0), [None]]
    elif isinstance(value, (tuple, list)):
        yield from variants_of_list(value)
    elif isinstance(value, dict):
        yield from variants_of_dict(value)


def variants_of_list(value):
    made = type(value)
    yield from [list(value) if made is tuple else tuple(value), made(value[:-1]), made(value[1:]), made([*value, None])]
    yield from [made([*value, *value[-1:]]), made([value]), made(), None, dict(enumerate(value))]
    for at, part in enumerate(value):
        for other in variants(part):
            yield made([*value[:at], other, *value[at + 1:]])
        for other in range(at):
            parts = list(value)
            parts[at], parts[other] = parts[other], parts[at]
            yield made(parts)


def variants_of_dict(value):
    yield from [list(value.items()), tuple(value.items()), [value], {}, None, dict(reversed(list(value.items())))]
    for key in value:
        rest = {one: value[one] for one in value if one != key}
        yield rest
        for other in variants(value[key]):
            yield {**value, key: other}
        for other in variants(key):
            if isinstance(other, (str, int)) or isinstance(other, tuple) and all(map(is_plain, other)):
                yield {**rest, other: value[key]}
                yield {**value, other: 1}
    for key in ["00", "0", "00-", "10", "01", "1", 0, None, ("0",), (0, 1, "01"), (0, 0, "01")]:
        for number in [0, 1, 10 ** 40]:
            yield {**value, key: value.get(key, number)}


def is_plain(value):
    return value is None or isinstance(value, (str, int))


def is_whole(value, least=None, greatest=None):
    """Whether a value is an integer, not a bool, within the bounds that are given."""
    if type(value) is not int:
        return False
    return (least is None or value >= least) and (greatest is None or value <= greatest)


def is_tuple(value, many, tag=None):
    """Whether a value is a tuple with so many parts, the first one the tag if there is one."""
    return type(value) is tuple and len(value) == many and (tag is None or type(value[0]) is str and value[0] == tag)


def is_numbers(value, keys, least=0):
    """Whether a value is a dict from some of the keys to integers."""
    if type(value) is not dict or not all(any(type(key) is type(one) and key == one for one in keys) for key in value):
        return False
    return all(is_whole(number, least) for number in value.values())


def is_full_list(font, value):
    """Whether a value is a price list."""
    return is_numbers(value, font.signs) and len(value) == len(font)


def is_written(font, value):
    """Whether a value is a set of signs as it is written."""
    return type(value) is str and value in all_sets(font)


def dearest(font, prices, kind):
    """The list price."""
    return max(prices[sign] for sign in font.shown(kind))


def wanted(wants, prices):
    return sum(wants[sign] * prices[sign] for sign in wants.font.signs)


def hang(font, plates, wants):
    """Whether wants hang, from the counts of plates in a dict, by all sets of signs."""
    shown = {kind: set(font.shown(kind)) for kind in plates}
    for signs in all_sets(font):
        bearing = sum(plates[kind] for kind in plates if shown[kind] & set(signs))
        if sum(wants[sign] for sign in signs) > bearing:
            return False
    return True


def is_lasting(case, wants, kinds, signs):
    """Whether a value is a lack of which none of the kinds shows a sign."""
    if not is_written(case.font, signs):
        return False
    if any(set(case.font.shown(kind)) & set(signs) for kind in kinds):
        return False
    bearing = sum(count for kind, count in case.plates if set(case.font.shown(kind)) & set(signs))
    return sum(wants[sign] for sign in signs) > bearing


def joined(*tables):
    """The sums of dicts of numbers."""
    sums = {}
    for table in tables:
        for key, number in table.items():
            sums[key] = sums.get(key, 0) + number
    return sums


def parted(one, other):
    """One dict of numbers minus another."""
    return {key: one.get(key, 0) - other.get(key, 0) for key in {**one, **other}}


def amount(numbers, prices):
    return sum(numbers[kind] * prices.get(kind, 0) for kind in numbers)


def parts_of(plates):
    """All dicts with at most so many of each kind, without zeros."""
    for counts in itertools.product(*[range(count + 1) for count in plates.values()]):
        yield {kind: count for kind, count in zip(plates, counts) if count}


def baskets(kinds, most):
    """All dicts of at most so many plates of the kinds."""
    for many in range(most + 1):
        for chosen in itertools.combinations_with_replacement(kinds, many):
            yield {kind: chosen.count(kind) for kind in sorted(set(chosen))}


def some_table(chance, font, choices, most=5):
    """A dict from a few kinds to such numbers."""
    kinds = chance.sample(all_kinds(font), chance.randrange(min(most, len(all_kinds(font))) + 1))
    return {kind: chance.choice(choices) for kind in kinds}


def great_number(chance):
    return chance.choice([0, 1, 10 ** 30, chance.randrange(10 ** 30), chance.randrange(10 ** 30), chance.randrange(9)])


def great_table(chance, font, most):
    kinds = chance.sample(all_kinds(font), min(most, len(all_kinds(font))))
    return {kind: great_number(chance) for kind in kinds}


def strange_tables(font):
    """Values that are no dicts from kinds, as they are kept, to integers from 0 to 10 ** 30."""
    kind = all_kinds(font)[1]
    values = [{kind[::-1]: 1}, {kind: 1, kind[::-1]: 1}, {"--": 1}, {"": 1}, {font.signs[0]: 1}, {"zz": 1}, {"AA": 1},
              {(kind[0], kind[1]): 1}, {0: 1}, {None: 1}, {True: 1}, {kind: {kind: 1}}, {font.signs[0] + "-": 1, "x": 1}]
    for number in [-1, 10 ** 30 + 1, 10 ** 60, True, False, None, "1", 1.0, [1], (1,), {}, {1: 1}, [[1]]]:
        values.append({kind: number})
    return values + [[(kind, 1)], ((kind, 1),), [kind], kind, [{kind: 1}], ({kind: 1},), [], (), "", kind * 2000]


def shuffled(seed, values, most):
    """At most so many of the values, always the same ones."""
    values = list(values)
    return random.Random(seed).sample(values, min(most, len(values)))
