"""Promises that are kept whichever house closes, on whichever day (points 30 and 31)."""

from surehouse.books import is_named
from surehouse.catalogs import check_catalog, check_order, check_orders, is_between, is_row
from surehouse.errors import BadName, BadOrder
from surehouse.flows import filled, serving, stocks_of, wanted, without_prices
from surehouse.parcels import windows_of
from surehouse.promises import is_balanced, is_send, keeping
from surehouse.shortage import closed

MOST_ORDERS = 4
MOST_THINGS = 5
LAST_DAY = 99


def check_few(catalog, orders):
    """Raise BadOrder for a value that is no orders of the catalog, or has too many of them or of things."""
    check_orders(catalog, orders, MOST_ORDERS)
    if sum(wanted(orders).values()) > MOST_THINGS:
        raise BadOrder("these orders have too many things")


def insured(catalog, orders):
    """("sure", sends), or ("unsure", (house, wishes)), or ("unsure", None)."""
    check_catalog(catalog)
    check_few(catalog, orders)
    for house in catalog[0]:
        word, rows = keeping(closed(catalog, house), orders)
        if word == "cut":
            return ("unsure", (house, rows))
    sends = Search(catalog, orders).sends_found()
    return ("unsure", None) if sends is None else ("sure", sends)


def is_sure(catalog, orders, value):
    """Whether a value is sends with days that are sure."""
    check_catalog(catalog)
    check_few(catalog, orders)
    return are_sure(catalog, orders, value)


def are_sure(catalog, orders, value):
    """Whether a value is sends with days that are sure, of orders that are known to be good."""
    if not are_dated(catalog, orders, value):
        return False
    for day in range(max([order[3] + 1 for order in orders], default=0)):
        lacks, stocks = left_ahead(catalog, orders, value, day)
        if not is_safe(catalog, prices_from(catalog, orders, day), lacks, stocks):
            return False
    return True


def are_dated(catalog, orders, value):
    """Whether a value is sends with days, each within its window, that serve each wish just so."""
    if not isinstance(value, tuple) or not all([is_row(send, 5, 5) for send in value]):
        return False
    lanes = serving(catalog, orders)
    sends = [send[1:] for send in value]
    if not all([is_send(lanes, send) for send in sends]):
        return False
    spaces = windows_of(catalog, orders, sends)
    if not all([is_between(send[0], first, last) for send, (first, last) in zip(value, spaces)]):
        return False
    return is_balanced(catalog, orders, sends)


def prices_from(catalog, orders, day):
    """By wish and supply: 0, where the supply can serve the wish with what it sends from a day on."""
    return without_prices(serving(catalog, orders, day))


def left_ahead(catalog, orders, sends, day):
    """What wishes lack and what supplies have ahead of a day's sends."""
    lacks = wanted(orders)
    stocks = stocks_of(catalog)
    for sent, name, place, supply, count in sends:
        if sent < day:
            lacks[(name, place)] -= count
            stocks[supply] -= count
    return lacks, stocks


def flow_without(catalog, house, prices, lacks, stocks):
    """The flow that gives wishes what they lack of what other houses have; None if that is not enough."""
    left = {supply[0]: 0 if supply[1] == house else stocks[supply[0]] for supply in catalog[4]}
    flow, lacking = filled(left, lacks, prices)
    return flow if lacking is None else None


def is_safe(catalog, prices, lacks, stocks):
    """Whether wishes can get what they lack whichever house closes now."""
    return all([flow_without(catalog, house, prices, lacks, stocks) is not None for house in catalog[0]])


def mended(catalog, orders, sends, house, day):
    """What is sent instead when a house closes on a day: sends without days."""
    check_catalog(catalog)
    check_few(catalog, orders)
    if not are_sure(catalog, orders, sends):
        raise BadOrder("these sends are not sure")
    if house not in catalog[0]:
        raise BadName("this is no house")
    if not is_between(day, 0, LAST_DAY):
        raise BadName("this is no day")
    lacks, stocks = left_ahead(catalog, orders, sends, day)
    return flow_without(catalog, house, prices_from(catalog, orders, day), lacks, stocks).told()


class SureBook:
    """The orders that are promised, all of them insured."""

    def __init__(self, catalog):
        check_catalog(catalog)
        self._catalog = catalog
        self._promised = ()
        self._sent = ()

    @property
    def orders(self):
        """The promised orders, as they were asked."""
        return self._promised

    def ask(self, order):
        """Promise an order if all are insured then; whether it is promised now."""
        check_order(self._catalog, order)
        if is_named(self._promised, order[0]):
            raise BadName("an order of this name is promised")
        word, told = insured(self._catalog, self._promised + (order,))
        if word == "unsure":
            return False
        self._promised = self._promised + (order,)
        self._sent = told
        return True

    def sends(self):
        """Sends with days of all that is promised, which are sure."""
        return self._sent


def less(row, place):
    """The row with one less at a place."""
    return row[:place] + (row[place] - 1,) + row[place + 1:]


def counted(sends):
    """Sends of one thing each, (day, order, place, supply), as sends with days: those that are alike together."""
    counts = {}
    for send in sends:
        counts[send] = counts.get(send, 0) + 1
    return tuple([send + (counts[send],) for send in sorted(counts)])


class Search:
    """The search for sends with days that are sure, from each day on which supplies come to the next one.

    Sends on other days need not be tried: what is sent ahead of the next such day may as well go on the last
    one, for no other supplies are there; and what can be mended on the next one can be mended on the days ahead
    of it, when supplies have as much and more time. A state is (what wishes lack, what supplies have).
    """

    def __init__(self, catalog, orders):
        self.catalog = catalog
        self.first = (tuple(wanted(orders).values()), tuple(stocks_of(catalog).values()))
        self.wishes = list(wanted(orders))
        self.supplies = [supply[0] for supply in catalog[4]]
        self.comes = {supply[0]: supply[3] for supply in catalog[4]}
        lanes = serving(catalog, orders)
        useful = [supply for supply in self.supplies if any([supply in lanes[wish] for wish in self.wishes])]
        self.days = sorted(set([0] + [self.comes[supply] for supply in useful]))
        self.prices = [prices_from(catalog, orders, day) for day in self.days]

    def sends_found(self):
        """Sends with days that are sure; None if there are none."""
        rows = [(0, self.first, ())]
        seen = {}
        while rows:
            at, state, sends = rows.pop()
            if (at, state) in seen:
                continue
            seen[(at, state)] = True
            lacks = dict(zip(self.wishes, state[0]))
            stocks = dict(zip(self.supplies, state[1]))
            if not is_safe(self.catalog, self.prices[at], lacks, stocks):
                continue
            rest = self.all_now(at, lacks, stocks)
            if rest is not None:
                return counted(sends) + rest
            # Not on the last day: whoever can lose a house when all supplies have come can send all now.
            rows.extend([(at + 1, later, sends + more) for later, more in self.states_behind(at, state).items()])
        return None

    def all_now(self, at, lacks, stocks):
        """The sends of a day by which wishes get all that they lack; None if too little is there."""
        there = {supply: stocks[supply] if self.comes[supply] <= self.days[at] else 0 for supply in self.supplies}
        flow, lacking = filled(there, lacks, self.prices[at])
        if lacking is not None:
            return None
        return tuple([(self.days[at],) + send for send in flow.told()])

    def states_behind(self, at, state):
        """All states to which sends of a day lead, each with such sends; the one with no sends first."""
        found = {state: ()}
        layer = [state]
        while layer:
            later = []
            for one in layer:
                for other, send in self.states_next(at, one):
                    if other not in found:
                        found[other] = found[one] + (send,)
                        later.append(other)
            layer = later
        return found

    def states_next(self, at, state):
        """The states behind one more send of a day, with this send."""
        lacks, stocks = state
        return [((less(lacks, to), less(stocks, place)), (self.days[at],) + wish + (supply,))
                for to, wish in enumerate(self.wishes) if lacks[to] > 0
                for place, supply in enumerate(self.supplies) if stocks[place] > 0
                if self.comes[supply] <= self.days[at] and supply in self.prices[at][wish]]
