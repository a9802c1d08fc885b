"""Bills of orders, and what is given back when things come back (points 17 and 18)."""

from surehouse.catalogs import check_catalog, check_order, is_between, is_name, is_row
from surehouse.errors import BadBill, BadNumber, BadPrices
from surehouse.sums import shared, taxed

MOST_CENTS = 999999
MOST_RATE = 999
MOST_ON_A_LINE = 10 ** 9


def is_price(item, value):
    """Whether a value is the price of an item: (item, cents, rate)."""
    if not is_row(value, 3, 3) or value[0] != item:
        return False
    return is_between(value[1], 0, MOST_CENTS) and is_between(value[2], 0, MOST_RATE)


def check_prices(catalog, prices):
    """Raise BadPrices for a value that is no prices of the catalog."""
    items = catalog[2]
    if not is_row(prices, len(items), len(items)):
        raise BadPrices("prices are a tuple of one for each item")
    if not all([is_price(item, price) for item, price in zip(items, prices)]):
        raise BadPrices("a price is none of its item")


def bill(catalog, prices, order, voucher):
    """The lines (item, count, net, tax, off, due), one for each wish of an order."""
    check_catalog(catalog)
    check_prices(catalog, prices)
    check_order(catalog, order)
    if not is_between(voucher, 0, MOST_CENTS):
        raise BadNumber("this is no voucher")
    prices_of = {item: (cents, rate) for item, cents, rate in prices}
    rows = []
    for items, count in order[2]:
        cents, rate = prices_of[items[0]]
        rows.append((items[0], count, count * cents, taxed(count * cents, rate)))
    offs = offs_of([net + tax for _, _, net, tax in rows], voucher)
    return tuple([row + (off, row[2] + row[3] - off) for row, off in zip(rows, offs)])


def offs_of(amounts, voucher):
    """How much of a voucher each of the amounts gets."""
    total = sum(amounts)
    if total == 0:
        return tuple([0 for _ in amounts])
    return shared(min(voucher, total), tuple(amounts))


def total_of(lines):
    """The sum of what is due on a bill."""
    check_bill(lines)
    return sum([line[5] for line in lines])


def is_line(value):
    """Whether a value is a line of a bill."""
    if not is_row(value, 6, 6):
        return False
    item, count, net, tax, off, due = value
    if not is_name(item) or not is_between(count, 1, 99):
        return False
    if not is_between(net, 0, MOST_ON_A_LINE) or not is_between(tax, 0, MOST_ON_A_LINE):
        return False
    # What is due must be an integer itself: False is 0 to Python.
    return is_between(off, 0, net + tax) and is_between(due, net + tax - off, net + tax - off)


def check_bill(lines):
    """Raise BadBill for a value that is no bill."""
    if not is_row(lines, 1, 3) or not all([is_line(line) for line in lines]):
        raise BadBill("this is no bill")


def check_counts(lines, counts):
    """Raise BadNumber for a value that is no tuple of a count from 0 to the line's for each line."""
    if not is_row(counts, len(lines), len(lines)):
        raise BadNumber("this is no tuple of a count for each line")
    if not all([is_between(count, 0, line[1]) for line, count in zip(lines, counts)]):
        raise BadNumber("a count is none from 0 to the line's")


def refund(lines, back, more):
    """What is given back for each line when more comes back than is back already."""
    check_bill(lines)
    check_counts(lines, back)
    check_counts(lines, more)
    check_counts(lines, both(back, more))
    return tuple([line[5] * (ahead + count) // line[1] - line[5] * ahead // line[1]
                  for line, ahead, count in zip(lines, back, more)])


def both(one, other):
    """The sums of two rows of numbers, place by place."""
    return tuple([first + second for first, second in zip(one, other)])


def refunds(lines, rows):
    """The refunds as things come back row by row."""
    check_bill(lines)
    if not isinstance(rows, tuple):
        raise BadNumber("rows of counts are a tuple")
    back = tuple([0 for _ in lines])
    found = []
    for row in rows:
        found.append(refund(lines, back, row))
        back = both(back, row)
    return tuple(found)
