"""Catalogs and orders drawn from a seed: the same ones in every run."""

import random

NAMES = "abcdefghijklmnopqrstuvwxyz"


def some(draw, values, least, most):
    """A tuple of least to most of the values, unlike, in any order."""
    return tuple(draw.sample(values, draw.randint(least, min(most, len(values)))))


def drawn_catalog(draw, houses=2, regions=2, items=2, supplies=4, count=3, last=3, slow=1):
    """A catalog with at most so many of each, counts up to count, days up to last, lanes of up to slow days."""
    house_names = tuple(["h%d" % place for place in range(draw.randint(1, houses))])
    region_names = tuple(["r%d" % place for place in range(draw.randint(1, regions))])
    item_names = tuple(["i%d" % place for place in range(draw.randint(1, items))])
    ways = [(house, region) for house in house_names for region in region_names]
    lanes = []
    for house, region in draw.sample(ways, draw.randint(max(0, len(ways) - 1), min(20, len(ways)))):
        most = draw.randint(0, slow)
        lanes.append((house, region, draw.randint(0, most), most, draw.randint(0, 5)))
    rows = [("s%d" % place, draw.choice(house_names), draw.choice(item_names), draw.randint(0, last),
             draw.randint(0, count)) for place in range(draw.randint(0, supplies))]
    # Supplies that come early serve more.
    rows = [row[:3] + (min(row[3], draw.randint(0, last)),) + row[4:] for row in rows]
    return (house_names, region_names, item_names, tuple(lanes), tuple(rows))


def drawn_order(draw, catalog, name, wishes=2, count=2, last=4):
    """An order of the catalog."""
    rows = tuple([(some(draw, catalog[2], 1, 3), draw.randint(1, count)) for _ in range(draw.randint(1, wishes))])
    return (name, draw.choice(catalog[1]), rows, draw.randint(last // 2, last), draw.choice((0, 1, 1, 2, 7)))


def drawn_orders(draw, catalog, orders=2, wishes=2, count=2, last=4):
    """A tuple of at most so many orders of the catalog."""
    return tuple([drawn_order(draw, catalog, NAMES[place], wishes, count, last)
                  for place in range(min(draw.randint(0, 2 * orders), orders))])


def small_cases(seed, many, **limits):
    """So many pairs (catalog, orders) that are small enough to search through all sends."""
    draw = random.Random(seed)
    cases = []
    for _ in range(many):
        catalog = drawn_catalog(draw, **limits)
        cases.append((catalog, drawn_orders(draw, catalog)))
    return cases


def great_case(seed, count=99, want=30):
    """A catalog of fourteen supplies and twenty lanes, and twelve orders of three wishes each."""
    draw = random.Random(seed)
    houses = tuple(["h%d" % place for place in range(5)])
    regions = tuple(["r%d" % place for place in range(5)])
    items = tuple(["i%d" % place for place in range(5)])
    ways = draw.sample([(house, region) for house in houses for region in regions], 20)
    lanes = tuple([(house, region, 0, draw.randint(0, 9), draw.randint(0, 99)) for house, region in ways])
    supplies = tuple(["s%d" % place for place in range(14)])
    rows = tuple([(name, draw.choice(houses), draw.choice(items), draw.randint(0, 40), draw.randint(count // 2, count))
                  for name in supplies])
    orders = []
    for place in range(12):
        wishes = tuple([(some(draw, items, 1, 3), draw.randint(1, want)) for _ in range(3)])
        orders.append((NAMES[place], draw.choice(regions), wishes, draw.randint(30, 60), draw.randint(0, 999)))
    return ((houses, regions, items, lanes, rows), tuple(orders))


def insured_case(draw):
    """A catalog of a few houses and orders of two to four things that may be sent on several days."""
    houses = tuple("xyz"[:draw.randint(2, 3)])
    regions = tuple("vw"[:draw.randint(1, 2)])
    items = tuple("ij"[:draw.randint(1, 2)])
    lanes = tuple([(house, region, 0, draw.choice((0, 0, 1)), 1) for house in houses for region in regions
                   if draw.random() < 0.9])
    rows = tuple([("s%d" % place, draw.choice(houses), draw.choice(items), draw.randint(0, 3),
                   draw.choice((1, 1, 1, 2))) for place in range(draw.randint(3, 6))])
    orders = []
    for name in NAMES[:draw.randint(1, 3)]:
        wishes = tuple([(some(draw, items, 1, 2), 1) for _ in range(draw.randint(1, 2))])
        orders.append((name, draw.choice(regions), wishes, draw.randint(1, 4), 1))
    return (houses, regions, items, lanes, rows), tuple(orders[:4])


# The first wish must be sent on day 0. If it takes i, the house of k may close, and the second wish has nothing
# left; if it takes j, the house of l, and the third. But all three can be kept without any one house.
TORN = (
    (("v", "w", "x", "y"), ("r",), ("i", "j", "k", "l"), tuple([(house, "r", 0, 0, 1) for house in "vwxy"]),
     (("si", "v", "i", 0, 1), ("sj", "w", "j", 0, 1), ("sk", "x", "k", 2, 1), ("sl", "y", "l", 2, 1))),
    (("a", "r", ((("i", "j"), 1),), 0, 1), ("b", "r", ((("i", "k"), 1),), 2, 1), ("c", "r", ((("j", "l"), 1),), 2, 1)),
)


def torn_case(draw):
    """TORN with some changes: often all can be kept without any one house, and still no sends are sure."""
    catalog, orders = TORN
    houses, supplies, rows = catalog[0], [list(row) for row in catalog[4]], [list(order) for order in orders]
    for place in range(draw.randint(0, 4)):
        change = draw.randrange(7)
        if change == 0:
            draw.choice(supplies)[3] = draw.randint(0, 3)
        elif change == 1:
            draw.choice(supplies)[1] = draw.choice(houses)
        elif change == 2:
            draw.choice(supplies)[4] = draw.randint(1, 2)
        elif change == 3:
            supplies.append(["t%d" % place, draw.choice(houses), draw.choice(catalog[2]), draw.randint(0, 2), 1])
        elif change == 4:
            draw.choice(rows)[3] = draw.randint(0, 3)
        elif change == 5:
            row = draw.choice(rows)
            row[2] = ((row[2][0][0], 2),)
            draw.choice(supplies)[4] = 2
        else:
            draw.choice(rows)[2] = ((some(draw, catalog[2], 1, 2), 1),)
    draw.shuffle(supplies)
    draw.shuffle(rows)
    return catalog[:4] + (tuple([tuple(row) for row in supplies]),), tuple([tuple(row) for row in rows])
