"""Catalogs and orders drawn from a seed: the same ones in every run."""

import random

NAMES = "abcdefghijklmnopqrstuvwxyz"


def some(draw, values, least, most):
    """A tuple of least to most of the values, unlike, in any order."""
    return tuple(draw.sample(values, draw.randint(least, min(most, len(values)))))


def drawn_catalog(draw, houses=2, regions=2, items=2, supplies=4, count=3, last=3, slow=1):
    """A catalog with at most so many of each, counts up to count, days up to last, lanes of up to slow days."""
    house_names = tuple(["h%d" % place for place in range(draw.randint(1, houses))])
    region_names = tuple(["r%d" % place for place in range(draw.randint(1, regions))])
    item_names = tuple(["i%d" % place for place in range(draw.randint(1, items))])
    ways = [(house, region) for house in house_names for region in region_names]
    lanes = []
    for house, region in draw.sample(ways, draw.randint(max(0, len(ways) - 1), min(20, len(ways)))):
        most = draw.randint(0, slow)
        lanes.append((house, region, draw.randint(0, most), most, draw.randint(0, 5)))
    rows = [("s%d" % place, draw.choice(house_names), draw.choice(item_names), draw.randint(0, last),
             draw.randint(0, count)) for place in range(draw.randint(0, supplies))]
    # Supplies that come early serve more.
    rows = [row[:3] + (min(row[3], draw.randint(0, last)),) + row[4:] for row in rows]
    return (house_names, region_names, item_names, tuple(lanes), tuple(rows))


def drawn_order(draw, catalog, name, wishes=2, count=2, last=4):
    """An order of the catalog."""
    rows = tuple([(some(draw, catalog[2], 1, 3), draw.randint(1, count)) for _ in range(draw.randint(1, wishes))])
    return (name, draw.choice(catalog[1]), rows, draw.randint(last // 2, last), draw.choice((0, 1, 1, 2, 7)))


def drawn_orders(draw, catalog, orders=2, wishes=2, count=2, last=4):
    """A tuple of at most so many orders of the catalog."""
    return tuple([drawn_order(draw, catalog, NAMES[place], wishes, count, last)
                  for place in range(min(draw.randint(0, 2 * orders), orders))])


def small_cases(seed, many, **limits):
    """So many pairs (catalog, orders) that are small enough to search through all sends."""
    draw = random.Random(seed)
    cases = []
    for _ in range(many):
        catalog = drawn_catalog(draw, **limits)
        cases.append((catalog, drawn_orders(draw, catalog)))
    return cases


def great_case(seed, count=99, want=30):
    """A catalog of fourteen supplies and twenty lanes, and twelve orders of three wishes each."""
    draw = random.Random(seed)
    houses = tuple(["h%d" % place for place in range(5)])
    regions = tuple(["r%d" % place for place in range(5)])
    items = tuple(["i%d" % place for place in range(5)])
    ways = draw.sample([(house, region) for house in houses for region in regions], 20)
    lanes = tuple([(house, region, 0, draw.randint(0, 9), draw.randint(0, 99)) for house, region in ways])
    supplies = tuple(["s%d" % place for place in range(14)])
    rows = tuple([(name, draw.choice(houses), draw.choice(items), draw.randint(0, 40), draw.randint(count // 2, count))
                  for name in supplies])
    orders = []
    for place in range(12):
        wishes = tuple([(some(draw, items, 1, 3), draw.randint(1, want)) for _ in range(3)])
        orders.append((NAMES[place], draw.choice(regions), wishes, draw.randint(30, 60), draw.randint(0, 999)))
    return ((houses, regions, items, lanes, rows), tuple(orders))
