"""When not all can be kept: the best lot of orders, lost things and closed houses (points 11 and 12)."""

from surehouse.catalogs import check_catalog, check_orders, is_between, is_row
from surehouse.errors import BadName, BadNumber
from surehouse.flows import stocks_of
from surehouse.promises import is_told, keeping

MOST_ORDERS = 6


def worth_of(orders):
    """The sum of the worths of orders."""
    return sum([order[4] for order in orders])


def names_of(orders):
    """The names of orders."""
    return tuple([order[0] for order in orders])


def lots_of(orders):
    """All lots of orders, each a tuple of some of them: by falling worth, then by the tuples of their places."""
    rows = [()]
    for place in range(len(orders)):
        rows = rows + [row + (place,) for row in rows]
    ranked = sorted([(-worth_of([orders[place] for place in row]), row) for row in rows])
    return [tuple([orders[place] for place in row]) for _, row in ranked]


def best_kept(catalog, orders):
    """(names, worth, tolds) of the first lot of orders that can be kept."""
    check_catalog(catalog)
    check_orders(catalog, orders, MOST_ORDERS)
    return best_of(catalog, orders)


def best_of(catalog, orders):
    """What best_kept tells of a catalog and orders that are known to be good."""
    lots = lots_of(orders)
    tolds = [keeping(catalog, lots[0])]
    # This ends: the lot of no orders can be kept.
    while tolds[-1][0] == "cut":
        tolds.append(keeping(catalog, lots[len(tolds)]))
    best = lots[len(tolds) - 1]
    return (names_of(best), worth_of(best), tuple(tolds))


def shows_best_kept(catalog, orders, value):
    """Whether a value is what best_kept may tell."""
    check_catalog(catalog)
    check_orders(catalog, orders, MOST_ORDERS)
    lots = lots_of(orders)
    if not is_row(value, 3, 3) or not is_row(value[2], 1, len(lots)):
        return False
    names, worth, tolds = value
    if not all([is_told(catalog, lot, told) for lot, told in zip(lots, tolds)]):
        return False
    if [told[0] for told in tolds] != ["cut"] * (len(tolds) - 1) + ["plan"]:
        return False
    best = lots[len(tolds) - 1]
    return names == names_of(best) and is_between(worth, worth_of(best), worth_of(best))


def stocked(catalog, stocks):
    """The catalog in which supplies have so much."""
    return catalog[:4] + (tuple([supply[:4] + (stocks[supply[0]],) for supply in catalog[4]]),)


def without(catalog, losses):
    """The catalog with so much less: losses are pairs (supply, count)."""
    check_catalog(catalog)
    stocks = stocks_of(catalog)
    if not isinstance(losses, tuple) or not all([is_row(loss, 2, 2) for loss in losses]):
        raise BadName("losses are a tuple of pairs")
    # What is no string may be no key of a dict either.
    if not all([loss[0] in list(stocks) for loss in losses]):
        raise BadName("a loss names no supply")
    for supply, count in losses:
        if not is_between(count, 0, stocks[supply]):
            raise BadNumber("this is no count from 0 to what is left")
        stocks[supply] -= count
    return stocked(catalog, stocks)


def closed(catalog, house):
    """The catalog in which all supplies of a house have nothing."""
    check_catalog(catalog)
    if house not in catalog[0]:
        raise BadName("this is no house")
    return stocked(catalog, {supply[0]: 0 if supply[1] == house else supply[4] for supply in catalog[4]})


def if_closed(catalog, orders):
    """For each house (house, names, worth): the best lot of orders without it."""
    check_catalog(catalog)
    check_orders(catalog, orders, MOST_ORDERS)
    return tuple([(house,) + best_of(closed(catalog, house), orders)[:2] for house in catalog[0]])
