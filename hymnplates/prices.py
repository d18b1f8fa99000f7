"""Prices: which plates can be sold while some wants hang, and which are to be bought so that they do."""

from hymnplates.checks import GREATEST, is_number, is_table
from hymnplates.errors import InvalidPrices, InvalidWorths
from hymnplates.fonts import all_kinds, check_fonts
from hymnplates.hanging import check_hanging, is_lack
from hymnplates.masks import excesses_of, excesses_over, sums_of_wants
from hymnplates.offers import cheapest_plates
from hymnplates.worths import is_price_list, list_price


def sale(case, wants, worths):
    """(the worth of the best sale, what is sold, a price list that shows it)."""
    _check_sale(case, wants, worths)
    offers = [(worths.get(kind, 0), kind, count) for kind, count in case.plates]
    kept, prices, _ = cheapest_plates(case.font, sums_of_wants(wants), offers)
    # What is worth nothing stays.
    free = {kind: count - kept.get(kind, 0) for kind, count in case.plates if worths.get(kind, 0) > 0}
    sold = {kind: free[kind] for kind in free if free[kind] > 0}
    return amount_of(sold, worths), sold, prices


def is_sale(case, wants, worths, value):
    """Whether any value is a best sale with its worth and a price list that shows it."""
    _check_sale(case, wants, worths)
    if not isinstance(value, tuple) or len(value) != 3:
        return False
    worth, sold, prices = value
    if not is_number(worth, 0) or not is_sold(case, sold) or not is_price_list(case.font, prices):
        return False
    if worth != amount_of(sold, worths) or max(excesses_over(plates_without(case, sold), wants)) > 0:
        return False
    most = sum([count * max(worths.get(kind, 0), list_price(case.font, prices, kind)) for kind, count in case.plates])
    return worth == most - amount_wanted(wants, prices)


def purchase(case, wants, prices):
    """("bought", the cost of the cheapest purchase, what is bought, a price list that shows it), or ("lack", signs)."""
    _check_purchase(case, wants, prices)
    offers = [(prices[kind], kind, None) for kind in prices]
    bought, listed, lack = cheapest_plates(case.font, excesses_of(case, wants), offers)
    if lack is not None:
        return "lack", lack
    return "bought", amount_of(bought, prices), bought, listed


def is_purchase(case, wants, prices, value):
    """Whether any value is a cheapest purchase with its cost and a price list, or a lack that no purchase mends."""
    _check_purchase(case, wants, prices)
    if not isinstance(value, tuple):
        return False
    if len(value) == 2:
        return value[0] == "lack" and is_lasting_lack(case, wants, prices, value[1])
    if len(value) != 4 or value[0] != "bought":
        return False
    _, cost, bought, listed = value
    if not is_number(cost, 0) or not is_bought(prices, bought) or not is_price_list(case.font, listed):
        return False
    if cost != amount_of(bought, prices) or max(excesses_over(list(case.plates) + list(bought.items()), wants)) > 0:
        return False
    if any([list_price(case.font, listed, kind) > prices[kind] for kind in prices]):
        return False
    return cost == amount_wanted(wants, listed) - sum([count * list_price(case.font, listed, kind)
                                                       for kind, count in case.plates])


def check_prices(font, prices):
    """Raises InvalidPrices for any value that is not prices of kinds."""
    if not is_table(prices, all_kinds(font), GREATEST):
        raise InvalidPrices(prices)


def is_worths(font, value):
    """Whether any value is worths of kinds."""
    return is_table(value, all_kinds(font), GREATEST)


def is_bought(prices, value):
    """Whether any value is a purchase of kinds that have a price."""
    return is_table(value, prices) and all([value[kind] > 0 for kind in value])


def is_sold(case, value):
    """Whether any value is plates of the case, as a dict from kinds to numbers from 1 on."""
    return is_table(value, case.kinds) and all([0 < value[kind] <= case[kind] for kind in value])


def is_lasting_lack(case, wants, prices, value):
    """Whether any value is a lack of which no kind of the prices shows a sign."""
    if not is_lack(case, wants, value):
        return False
    return not any([sign in value for kind in prices for sign in case.font.shown(kind)])


def plates_without(case, sold):
    """Tuples (kind, count) of the plates that are not sold."""
    return [(kind, count - sold.get(kind, 0)) for kind, count in case.plates]


def amount_of(numbers, prices):
    """The sum of the prices of so many plates of kinds; a kind without a price costs nothing."""
    return sum([numbers[kind] * prices.get(kind, 0) for kind in numbers])


def amount_wanted(wants, prices):
    """The sum of the wants times their prices in a price list."""
    return sum([wants[sign] * prices[sign] for sign in prices])


def _check_sale(case, wants, worths):
    check_fonts(case.font, wants.font)
    if not is_worths(case.font, worths):
        raise InvalidWorths(worths)
    check_hanging(case, wants)


def _check_purchase(case, wants, prices):
    check_fonts(case.font, wants.font)
    check_prices(case.font, prices)
