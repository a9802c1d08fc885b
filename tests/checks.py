"""The points of the document said once more, in the plainest way, to hold the program's answers against."""

import itertools


def wishes_of(orders):
    """The pairs (order, place) of all wishes, in order."""
    return [(order[0], place) for order in orders for place in range(len(order[2]))]


def wish_of(orders, pair):
    """The order and the wish that a pair stands for."""
    for order in orders:
        if order[0] == pair[0]:
            return order, order[2][pair[1]]
    raise KeyError(pair)


def lane_between(catalog, house, region):
    """The lane of a house and a region, None without one."""
    for lane in catalog[3]:
        if lane[:2] == (house, region):
            return lane
    return None


def supply_of(catalog, name):
    """The supply of this name."""
    return [supply for supply in catalog[4] if supply[0] == name][0]


def can_serve(catalog, orders, pair, supply, day=0):
    """Point 4: whether a supply can serve a wish with what it sends from a day on."""
    order, wish = wish_of(orders, pair)
    lane = lane_between(catalog, supply[1], order[1])
    return supply[2] in wish[0] and lane is not None and max(day, supply[3]) + lane[3] <= order[3]


def is_plan(catalog, orders, sends):
    """Point 4: whether sends are a plan of orders."""
    if type(sends) is not tuple or any(type(send) is not tuple or len(send) != 4 for send in sends):
        return False
    supplies = {supply[0]: supply for supply in catalog[4]}
    for name, place, supply, count in sends:
        if not isinstance(count, int) or count < 1 or (name, place) not in wishes_of(orders):
            return False
        if supply not in supplies or not can_serve(catalog, orders, (name, place), supplies[supply]):
            return False
    if len({send[:3] for send in sends}) < len(sends):
        return False
    for supply in catalog[4]:
        if sum(send[3] for send in sends if send[2] == supply[0]) > supply[4]:
            return False
    return all(sum(send[3] for send in sends if send[:2] == pair) == wish_of(orders, pair)[1][1]
               for pair in wishes_of(orders))


def room_of(catalog, orders, pairs):
    """What all supplies have together that can serve one of the wishes."""
    return sum(supply[4] for supply in catalog[4]
               if any(can_serve(catalog, orders, pair, supply) for pair in pairs))


def is_cut(catalog, orders, pairs):
    """Point 5: whether these wishes cannot be served together."""
    if type(pairs) is not tuple or len(set(pairs)) < len(pairs):
        return False
    if any(pair not in wishes_of(orders) for pair in pairs):
        return False
    return sum(wish_of(orders, pair)[1][1] for pair in pairs) > room_of(catalog, orders, pairs)


def ways_to_serve(supplies, stocks, count):
    """All tuples of what each of the supplies gives, so that it is the count."""
    if not supplies:
        return [()] if count == 0 else []
    first = supplies[0]
    return [(given,) + rest for given in range(min(count, stocks[first]) + 1)
            for rest in ways_to_serve(supplies[1:], stocks, count - given)]


def all_plans(catalog, orders):
    """All plans of orders, each as the ascending tuple of its sends: a search through all sends."""
    plans = [((), {supply[0]: supply[4] for supply in catalog[4]})]
    for pair in wishes_of(orders):
        count = wish_of(orders, pair)[1][1]
        able = [supply[0] for supply in catalog[4] if can_serve(catalog, orders, pair, supply)]
        longer = []
        for sends, stocks in plans:
            for parts in ways_to_serve(able, stocks, count):
                left = dict(stocks)
                for supply, part in zip(able, parts):
                    left[supply] -= part
                told = tuple(pair + (supply, part) for supply, part in zip(able, parts) if part > 0)
                longer.append((sends + told, left))
        plans = longer
    return [tuple(sorted(sends)) for sends, _ in plans]


def all_cuts(catalog, orders):
    """All cuts of orders, each in the order of the wishes."""
    pairs = wishes_of(orders)
    rows = [row for many in range(len(pairs) + 1) for row in itertools.combinations(pairs, many)]
    return [row for row in rows if is_cut(catalog, orders, row)]


def cost_of(catalog, orders, sends):
    """Point 10: the sum of count times lane price."""
    total = 0
    for name, place, supply, count in sends:
        region = wish_of(orders, (name, place))[0][1]
        total += count * lane_between(catalog, supply_of(catalog, supply)[1], region)[4]
    return total


def are_prices(catalog, orders, sends, prices):
    """Point 10: whether prices (at supplies, at wishes) are as it asks."""
    at_supplies, at_wishes = prices
    if len(at_supplies) != len(catalog[4]) or len(at_wishes) != len(wishes_of(orders)):
        return False
    for supply, price in zip(catalog[4], at_supplies):
        sent = sum(send[3] for send in sends if send[2] == supply[0])
        if price < 0 or (sent < supply[4] and price != 0):
            return False
        for pair, bought in zip(wishes_of(orders), at_wishes):
            if not can_serve(catalog, orders, pair, supply):
                continue
            gap = lane_between(catalog, supply[1], wish_of(orders, pair)[0][1])[4] - (bought - price)
            used = any(send[:3] == pair + (supply[0],) for send in sends)
            if gap < 0 or (used and gap != 0):
                return False
    return True


def things_of(orders):
    """The pair of each thing that is wanted."""
    return [pair for pair in wishes_of(orders) for _ in range(wish_of(orders, pair)[1][1])]


def can_be_served(catalog, orders, things, stocks, day):
    """Whether things can be served of what supplies have, sent from a day on: thing by thing."""
    if not things:
        return True
    for supply in catalog[4]:
        if stocks[supply[0]] > 0 and can_serve(catalog, orders, things[0], supply, day):
            left = dict(stocks)
            left[supply[0]] -= 1
            if can_be_served(catalog, orders, things[1:], left, day):
                return True
    return False


def rest_on(catalog, orders, sends, house, day):
    """Point 30: the things not sent ahead of a day, and what other houses have left then."""
    things = things_of(orders)
    stocks = {supply[0]: supply[4] for supply in catalog[4]}
    for sent, name, place, supply, count in sends:
        if sent < day:
            stocks[supply] -= count
            for _ in range(count):
                things.remove((name, place))
    for supply in catalog[4]:
        if supply[1] == house:
            stocks[supply[0]] = 0
    return things, stocks


def failures(catalog, orders, sends):
    """The pairs (house, day) of all closings behind which sends with days cannot be mended."""
    days = range(max([order[3] for order in orders], default=0) + 1)
    return [(house, day) for house in catalog[0] for day in days
            if not can_be_served(catalog, orders, *rest_on(catalog, orders, sends, house, day), day)]


def all_dated(catalog, orders):
    """All rows of sends with days, each sorted and thing by thing, counts of one kind together."""
    rows = {(): {supply[0]: supply[4] for supply in catalog[4]}}
    for pair in things_of(orders):
        order, longer = wish_of(orders, pair)[0], {}
        for sends, stocks in rows.items():
            for supply in catalog[4]:
                if stocks[supply[0]] == 0 or not can_serve(catalog, orders, pair, supply):
                    continue
                left = dict(stocks)
                left[supply[0]] -= 1
                last = order[3] - lane_between(catalog, supply[1], order[1])[3]
                for day in range(supply[3], last + 1):
                    longer[tuple(sorted(sends + ((day,) + pair + (supply[0],),)))] = left
        rows = longer
    return [tuple(key + (sends.count(key),) for key in sorted(set(sends))) for sends in rows]


def sure_ones(catalog, orders):
    """All rows of sends with days that are sure."""
    return [sends for sends in all_dated(catalog, orders) if not failures(catalog, orders, sends)]
