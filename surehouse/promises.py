"""Whether orders can be kept: a plan of all of them, or a cut, the wishes that cannot be (points 4 and 5)."""

from surehouse.catalogs import are_unlike, check_catalog, check_orders, is_between, is_row
from surehouse.flows import filled, serving, stocks_of, wanted, without_prices


def can_keep(catalog, orders):
    """("plan", sends) for orders that can be kept together, or ("cut", wishes)."""
    check_catalog(catalog)
    check_orders(catalog, orders)
    return keeping(catalog, orders)


def keeping(catalog, orders):
    """What can_keep tells of a catalog and orders that are known to be good."""
    flow, lacking = filled(stocks_of(catalog), wanted(orders), without_prices(serving(catalog, orders)))
    if lacking is None:
        return ("plan", flow.told())
    return ("cut", flow.rivals(lacking))


def shows_can_keep(catalog, orders, value):
    """Whether a value is what can_keep may tell."""
    check_catalog(catalog)
    check_orders(catalog, orders)
    return is_told(catalog, orders, value)


def is_told(catalog, orders, value):
    """Whether a value is a plan or a cut of orders that are known to be good, with its word."""
    if not is_row(value, 2, 2):
        return False
    word, rows = value
    if word == "plan":
        return is_plan(catalog, orders, rows)
    return word == "cut" and is_cut(catalog, orders, rows)


def is_pair(wants, value):
    """Whether a value is the pair of a wish."""
    # A place that is True would be found as 1.
    if not is_row(value, 2, 2) or not isinstance(value[0], str) or not is_between(value[1], 0, 2):
        return False
    return value in wants


def is_send(lanes, value):
    """Whether a value is a send of a supply that can serve its wish."""
    if not is_row(value, 4, 4) or not is_pair(lanes, value[:2]) or not isinstance(value[2], str):
        return False
    return value[2] in lanes[value[:2]] and is_count(value[3])


def is_count(value):
    """Whether a value is an integer from 1 on."""
    return isinstance(value, int) and not isinstance(value, bool) and value >= 1


def is_balanced(catalog, orders, sends):
    """Whether sends (order, place, supply, count) take no more than supplies have, and serve each wish just so."""
    rests = stocks_of(catalog)
    lacks = wanted(orders)
    for name, place, supply, count in sends:
        rests[supply] -= count
        lacks[(name, place)] -= count
    return all([rest >= 0 for rest in rests.values()]) and all([lack == 0 for lack in lacks.values()])


def is_plan(catalog, orders, value):
    """Whether a value is a plan of orders that are known to be good."""
    lanes = serving(catalog, orders)
    if not isinstance(value, tuple) or not all([is_send(lanes, send) for send in value]):
        return False
    return are_unlike([send[:3] for send in value]) and is_balanced(catalog, orders, value)


def is_cut(catalog, orders, value):
    """Whether a value is unlike wishes that want more than all supplies have that can serve one of them."""
    wants = wanted(orders)
    if not isinstance(value, tuple) or not all([is_pair(wants, pair) for pair in value]):
        return False
    lanes = serving(catalog, orders)
    stocks = stocks_of(catalog)
    room = sum([stocks[supply] for supply in stocks if any([supply in lanes[pair] for pair in value])])
    return are_unlike(value) and sum([wants[pair] for pair in value]) > room
