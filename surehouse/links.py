"""From promises to deals and back: sent and paid, or neither (point 26)."""

from surehouse.audits import check_is_world
from surehouse.bills import bill, check_prices, total_of
from surehouse.catalogs import check_catalog, check_orders, is_row
from surehouse.errors import BadDeals, BadParcel
from surehouse.promises import is_plan
from surehouse.shortage import stocked
from surehouse.worlds import World, check_world

MOST_ORDERS = 6


def world_of(catalog, prices, orders, sends, buyers):
    """The world in which each order of a plan is a deal of the buyer at its place."""
    check_catalog(catalog)
    supplies = tuple([(name, house, count) for name, house, _, _, count in catalog[4]])
    check_world(supplies, (), ())
    check_prices(catalog, prices)
    check_orders(catalog, orders)
    if len(orders) > MOST_ORDERS:
        raise BadDeals("these are too many orders for a world")
    if not is_plan(catalog, orders, sends):
        raise BadParcel("these sends are no plan of the orders")
    if not is_row(buyers, len(orders), len(orders)):
        raise BadDeals("buyers are a tuple of one for each order")
    check_world(supplies, (), buyers)
    deals = tuple([(order[0], buyer[0], parts_of(catalog, sends, order[0]), total_of(bill(catalog, prices, order, 0)))
                   for order, buyer in zip(orders, buyers)])
    return World(supplies, deals, buyers)


def parts_of(catalog, sends, name):
    """The pairs (supply, count) of what is sent for an order, in the catalog's order."""
    counts = {supply[0]: 0 for supply in catalog[4]}
    for order, _, supply, count in sends:
        if order == name:
            counts[supply] += count
    return tuple([(supply, count) for supply, count in counts.items() if count > 0])


def done(world):
    """(names of the deals that went, names of the others)."""
    check_is_world(world)
    names = [deal[0] for deal in world.setup[1]]
    went = [name for name in names if ("go", name) in world.state[0]]
    return (tuple(went), tuple([name for name in names if name not in went]))


def catalog_behind(catalog, world):
    """The catalog with what is free of each supply."""
    check_catalog(catalog)
    check_is_world(world)
    free = {row[0]: row[1] for row in world.things()}
    if not all([supply[0] in free for supply in catalog[4]]):
        raise BadDeals("the world is without a supply of the catalog")
    return stocked(catalog, free)
