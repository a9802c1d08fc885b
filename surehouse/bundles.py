"""Bundles: of how many of each item a bundle is made, and the order for bundles (point 15)."""

from surehouse.catalogs import are_unlike, check_catalog, is_between, is_name, is_row
from surehouse.errors import BadItem, BadOrder


def is_part(known, value):
    """Whether a value is a part: (one of the known names, count)."""
    return is_row(value, 2, 2) and value[0] in known and is_between(value[1], 1, 9)


def is_bundle(known, value):
    """Whether a value is a bundle made of known names, its own name not among them."""
    if not is_row(value, 2, 2):
        return False
    name, parts = value
    if not is_name(name) or name in known or not is_row(parts, 1, 4):
        return False
    return all([is_part(known, part) for part in parts]) and are_unlike([part[0] for part in parts])


def are_bundles(items, value):
    """Whether a value is bundles over these items."""
    if not is_row(value, 0, 6):
        return False
    known = list(items)
    for bundle in value:
        if not is_bundle(known, bundle):
            return False
        known.append(bundle[0])
    return True


def check_bundles(catalog, bundles):
    """Raise BadItem for a value that is no bundles over the items of the catalog."""
    if not are_bundles(catalog[2], bundles):
        raise BadItem("these are no bundles of the catalog")


def counts_of(width, table, pairs):
    """How many of each item, by its place, the pairs (name, count) are made of."""
    return [sum([table[name][place] * count for name, count in pairs]) for place in range(width)]


def table_of(items, bundles):
    """For the name of each item and bundle, how many of each item, by its place, one of it is made of."""
    table = {}
    for item in items:
        table[item] = [1 if other == item else 0 for other in items]
    for name, parts in bundles:
        table[name] = counts_of(len(items), table, parts)
    return table


def is_want(table, value):
    """Whether a value is (name in the table, count from 1 to 99)."""
    if not is_row(value, 2, 2):
        return False
    name, count = value
    # What is no string may be no key of a dict either.
    return isinstance(name, str) and name in table and is_between(count, 1, 99)


def needed(items, table, pairs):
    """The pairs (item, count), in the order of the items, that the pairs (name, count) are made of."""
    counts = counts_of(len(items), table, pairs)
    return tuple([(item, count) for item, count in zip(items, counts) if count > 0])


def made_of(catalog, bundles, name, count):
    """The pairs (item, count) of which so many of an item or bundle are made."""
    check_catalog(catalog)
    check_bundles(catalog, bundles)
    table = table_of(catalog[2], bundles)
    if not is_want(table, (name, count)):
        raise BadItem("this is no item or bundle, or no count from 1 to 99")
    return needed(catalog[2], table, ((name, count),))


def opened(catalog, bundles, name, region, wants, by, worth):
    """The order with one wish for each item that the wants are made of."""
    check_catalog(catalog)
    check_bundles(catalog, bundles)
    table = table_of(catalog[2], bundles)
    if not is_row(wants, 1, 6) or not all([is_want(table, want) for want in wants]):
        raise BadOrder("these are no wants")
    pairs = needed(catalog[2], table, wants)
    if len(pairs) > 3 or any([pair[1] > 99 for pair in pairs]):
        raise BadOrder("an order has at most three items, and at most 99 of each")
    # The document asks nothing of name, region, by and worth here: they stand in the order as given.
    return (name, region, tuple([((item,), count) for item, count in pairs]), by, worth)
