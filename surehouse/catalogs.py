"""Names, catalogs, wishes and orders: what they must look like (points 2 and 3)."""

from surehouse.errors import BadCatalog, BadOrder

LETTERS = "abcdefghijklmnopqrstuvwxyz"
SIGNS = "abcdefghijklmnopqrstuvwxyz0123456789"


def is_between(value, low, high):
    """Whether a value is an integer from low to high."""
    # Python counts True and False among its integers; the document does not.
    return isinstance(value, int) and not isinstance(value, bool) and low <= value <= high


def is_row(value, least, most):
    """Whether a value is a tuple of least to most things."""
    return isinstance(value, tuple) and least <= len(value) <= most


def are_unlike(keys):
    """Whether no two of a row of strings, or of tuples of strings, are alike."""
    return len(set(keys)) == len(keys)


def is_name(value):
    """Whether a value is a name."""
    if not isinstance(value, str) or not 1 <= len(value) <= 8:
        return False
    return value[0] in LETTERS and all([sign in SIGNS for sign in value])


def are_names(value, least, most):
    """Whether a value is a tuple of least to most unlike names."""
    return is_row(value, least, most) and all([is_name(name) for name in value]) and are_unlike(value)


def is_lane(houses, regions, value):
    """Whether a value is a lane from one of the houses to one of the regions."""
    if not is_row(value, 5, 5):
        return False
    house, region, least, most, price = value
    if house not in houses or region not in regions:
        return False
    return is_between(least, 0, 9) and is_between(most, least, 9) and is_between(price, 0, 99)


def are_lanes(houses, regions, value):
    """Whether a value is the lanes of a catalog with these houses and regions."""
    if not is_row(value, 0, 20) or not all([is_lane(houses, regions, lane) for lane in value]):
        return False
    return are_unlike([(lane[0], lane[1]) for lane in value])


def is_supply(houses, items, value):
    """Whether a value is a supply of one of the items in one of the houses."""
    if not is_row(value, 5, 5):
        return False
    name, house, item, day, count = value
    if not is_name(name) or house not in houses or item not in items:
        return False
    return is_between(day, 0, 60) and is_between(count, 0, 99)


def are_supplies(houses, items, value):
    """Whether a value is the supplies of a catalog with these houses and items."""
    if not is_row(value, 0, 14) or not all([is_supply(houses, items, supply) for supply in value]):
        return False
    return are_unlike([supply[0] for supply in value])


def is_catalog(value):
    """Whether a value is a catalog: (houses, regions, items, lanes, supplies)."""
    if not is_row(value, 5, 5):
        return False
    houses, regions, items, lanes, supplies = value
    if not all([are_names(names, 1, 5) for names in (houses, regions, items)]):
        return False
    return are_lanes(houses, regions, lanes) and are_supplies(houses, items, supplies)


def check_catalog(catalog):
    """Raise BadCatalog for a value that is no catalog."""
    if not is_catalog(catalog):
        raise BadCatalog("this is no catalog")


def are_wished(catalog, value):
    """Whether a value is the items of a wish: a tuple of 1 to 3 unlike items of the catalog."""
    return are_names(value, 1, 3) and all([item in catalog[2] for item in value])


def is_wish(catalog, value):
    """Whether a value is a wish: (items, count)."""
    return is_row(value, 2, 2) and are_wished(catalog, value[0]) and is_between(value[1], 1, 99)


def is_order(catalog, value):
    """Whether a value is an order of the catalog: (name, region, wishes, by, worth)."""
    if not is_row(value, 5, 5):
        return False
    name, region, wishes, by, worth = value
    if not is_name(name) or region not in catalog[1]:
        return False
    if not is_row(wishes, 1, 3) or not all([is_wish(catalog, wish) for wish in wishes]):
        return False
    return is_between(by, 0, 60) and is_between(worth, 0, 999)


def are_orders(catalog, value, most):
    """Whether a value is a tuple of at most so many orders of the catalog, of unlike names."""
    if not is_row(value, 0, most) or not all([is_order(catalog, order) for order in value]):
        return False
    return are_unlike([order[0] for order in value])


def check_order(catalog, order):
    """Raise BadOrder for a value that is no order of the catalog."""
    if not is_order(catalog, order):
        raise BadOrder("this is no order of the catalog")


def check_orders(catalog, orders, most=12):
    """Raise BadOrder for a value that is no tuple of at most so many orders of the catalog."""
    if not are_orders(catalog, orders, most):
        raise BadOrder("these are no orders of the catalog")
