"""The cheapest plan, and prices that show that none is cheaper (point 10)."""

from surehouse.catalogs import check_catalog, check_orders, is_between, is_row
from surehouse.flows import filled, serving, stocks_of, wanted
from surehouse.promises import is_cut, is_plan

MOST_PRICE = 99999
# What has the price 0: no supply is called so.
GROUND = ""


def cheapest(catalog, orders):
    """("plan", sends, cost, prices) with the least cost, or ("cut", wishes)."""
    check_catalog(catalog)
    check_orders(catalog, orders)
    lanes = serving(catalog, orders)
    prices = {wish: {supply: lane[4] for supply, lane in found.items()} for wish, found in lanes.items()}
    flow, lacking = filled(stocks_of(catalog), wanted(orders), prices)
    if lacking is not None:
        return ("cut", flow.rivals(lacking))
    sends = flow.told()
    heights = heights_of(limits_in(flow))
    return ("plan", sends, cost_of(lanes, sends), prices_in(flow, heights))


def cost_of(lanes, sends):
    """The sum of count times lane price."""
    return sum([count * lanes[(name, place)][supply][4] for name, place, supply, count in sends])


def limits_in(flow):
    """What is asked of prices, as rows (one, other, gap): the other's price is at most the one's and the gap."""
    limits = []
    for wish, prices in flow.prices.items():
        for supply, price in prices.items():
            limits.append((supply, wish, price))
            if wish in flow.parts[supply]:
                limits.append((wish, supply, -price))
    for supply, rest in flow.rests.items():
        limits.append((supply, GROUND, 0))
        if rest > 0:
            limits.append((GROUND, supply, 0))
    return limits


def heights_of(limits):
    """Heights that keep all limits: the greatest ones that are at most 0."""
    heights = {GROUND: 0}
    for one, other, _ in limits:
        heights[one] = 0
        heights[other] = 0
    # This ends because the flow is a cheapest one: no ring of limits leads down.
    sinking = True
    while sinking:
        sinking = False
        for one, other, gap in limits:
            if heights[one] + gap < heights[other]:
                heights[other] = heights[one] + gap
                sinking = True
    return heights


def prices_in(flow, heights):
    """The prices (at supplies, at wishes): heights above the ground."""
    at_supplies = tuple([heights[supply] - heights[GROUND] for supply in flow.rests])
    return (at_supplies, tuple([heights[wish] - heights[GROUND] for wish in flow.prices]))


def shows_cheapest(catalog, orders, value):
    """Whether a value is what cheapest may tell."""
    check_catalog(catalog)
    check_orders(catalog, orders)
    if is_row(value, 2, 2):
        return value[0] == "cut" and is_cut(catalog, orders, value[1])
    if not is_row(value, 4, 4) or value[0] != "plan" or not is_plan(catalog, orders, value[1]):
        return False
    _, sends, cost, prices = value
    least = cost_of(serving(catalog, orders), sends)
    # Prices that keep the point show that no plan is cheaper.
    return is_between(cost, least, least) and are_prices(catalog, orders, sends, prices)


def are_prices(catalog, orders, sends, value):
    """Whether a value is prices as point 10 asks for with these sends."""
    if not is_row(value, 2, 2):
        return False
    at_supplies, at_wishes = value
    stocks = stocks_of(catalog)
    wants = wanted(orders)
    if not is_row(at_supplies, len(stocks), len(stocks)) or not is_row(at_wishes, len(wants), len(wants)):
        return False
    if not all([is_between(price, 0, MOST_PRICE) for price in at_supplies]):
        return False
    if not all([is_between(price, -MOST_PRICE, MOST_PRICE) for price in at_wishes]):
        return False
    sold = dict(zip(list(stocks), at_supplies))
    bought = {wish: price for wish, price in zip(list(wants), at_wishes)}
    return are_void_where_left(stocks, sends, sold) and are_lane_prices(serving(catalog, orders), sends, sold, bought)


def are_void_where_left(stocks, sends, sold):
    """Whether prices at supplies are 0 where not all is sent."""
    rests = dict(stocks)
    for send in sends:
        rests[send[2]] -= send[3]
    return all([sold[supply] == 0 for supply in rests if rests[supply] > 0])


def are_lane_prices(lanes, sends, sold, bought):
    """Whether no wish's price is above a supply's and the lane's, and those of each send are just so."""
    for wish, found in lanes.items():
        for supply, lane in found.items():
            if bought[wish] - sold[supply] > lane[4]:
                return False
    return all([bought[(name, place)] - sold[supply] == lanes[(name, place)][supply][4]
                for name, place, supply, _ in sends])
