"""Offers: the cheapest plates for some wants, and the prices of signs that show that no plates are cheaper.

An offer is a tuple (price, kind, number), the number None if there are as many plates of the kind as one likes. The
cheapest offers are taken first, each plate only if it makes the greatest excess of wants less: as with the cheapest
tree in a graph, no choice is better.
"""

from hymnplates.masks import mask_of, signs_of, worst_masks


def cheapest_plates(font, excesses, offers):
    """(from kinds to numbers that are taken, a price list, a lack that all offers together leave, or None).

    The excesses are those of the wants over what there is without the offers.
    """
    left = list(excesses)
    greatest, least, _ = worst_masks(left)
    taken = {}
    prices = {sign: 0 for sign in font.signs}
    paid = 0
    for price, kind, number in sorted(offers):
        # A sign costs what is paid as long as it is in the least worst set; with more plates this loses signs only.
        for sign in signs_of(font, least):
            prices[sign] = prices[sign] + price - paid
        paid = price
        before = greatest
        left = excesses_beside(font, left, kind, number)
        greatest, least, _ = worst_masks(left)
        if greatest < before:
            taken[kind] = before - greatest
    lack = signs_of(font, least) if greatest > 0 else None
    return taken, prices, lack


def excesses_beside(font, excesses, kind, number):
    """The excesses when there are so many more plates of the kind, or as many as one likes if the number is None."""
    shown = mask_of(font, font.shown(kind))
    if number is None:
        # Below 0 no set is worst: the empty one has an excess of 0.
        return [-1 if mask & shown > 0 else excess for mask, excess in enumerate(excesses)]
    return [excess - number if mask & shown > 0 else excess for mask, excess in enumerate(excesses)]
