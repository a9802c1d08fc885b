"""On which days the sends of a plan go and come (points 13 and 14)."""

from surehouse.catalogs import check_catalog, check_orders, is_between, is_row
from surehouse.errors import BadParcel
from surehouse.flows import serving
from surehouse.promises import is_plan
from surehouse.shortage import without


def check_plan(catalog, orders, sends):
    """Raise the error of the leftmost of these that is no catalog, no orders or no plan of them."""
    check_catalog(catalog)
    check_orders(catalog, orders)
    if not is_plan(catalog, orders, sends):
        raise BadParcel("these sends are no plan of the orders")


def lanes_of(catalog, orders, sends):
    """The lane of each send."""
    lanes = serving(catalog, orders)
    return [lanes[(name, place)][supply] for name, place, supply, _ in sends]


def windows_of(catalog, orders, sends):
    """The first and the last day on which each send of a supply that can serve its wish may go."""
    comes = {supply[0]: supply[3] for supply in catalog[4]}
    ends = {order[0]: order[3] for order in orders}
    return tuple([(comes[send[2]], ends[send[0]] - lane[3])
                  for send, lane in zip(sends, lanes_of(catalog, orders, sends))])


def check_within(value, spaces):
    """Raise BadParcel for a value that is no tuple of a number within each of the spaces (least, most)."""
    if not is_row(value, len(spaces), len(spaces)):
        raise BadParcel("this is no tuple of a number for each send")
    if not all([is_between(number, least, most) for number, (least, most) in zip(value, spaces)]):
        raise BadParcel("a number is out of its limits")


def check_days(catalog, orders, sends, days):
    """Raise the error of the leftmost of these that is not as it must be."""
    check_plan(catalog, orders, sends)
    check_within(days, windows_of(catalog, orders, sends))


def windows(catalog, orders, sends):
    """The first and the last day on which each send of a plan may go."""
    check_plan(catalog, orders, sends)
    return windows_of(catalog, orders, sends)


def arrivals(catalog, orders, sends, days):
    """The first and the last day on which each send may come that goes on its day."""
    check_days(catalog, orders, sends, days)
    return tuple([(day + lane[2], day + lane[3]) for day, lane in zip(days, lanes_of(catalog, orders, sends))])


def sheet(catalog, orders, sends, days):
    """The ascending tuple of (day, house, region, supply, count), what goes together in one row."""
    check_days(catalog, orders, sends, days)
    counts = {}
    for send, lane, day in zip(sends, lanes_of(catalog, orders, sends), days):
        row = (day, lane[0], lane[1], send[2])
        counts[row] = counts.get(row, 0) + send[3]
    return tuple([row + (counts[row],) for row in sorted(counts)])


def left_after(catalog, orders, sends):
    """The catalog with what was sent taken away."""
    check_plan(catalog, orders, sends)
    return without(catalog, tuple([send[2:] for send in sends]))


def come(catalog, orders, sends, days, spans):
    """For each order (name, day on which its last send comes, whether that is in time)."""
    check_days(catalog, orders, sends, days)
    check_within(spans, [lane[2:4] for lane in lanes_of(catalog, orders, sends)])
    last = {order[0]: 0 for order in orders}
    for send, day, span in zip(sends, days, spans):
        last[send[0]] = max(last[send[0]], day + span)
    return tuple([(order[0], last[order[0]], last[order[0]] <= order[3]) for order in orders])
