"""The book of what is promised: each order that can be kept with all promised ahead (points 6 to 8)."""

from surehouse.catalogs import are_wished, check_catalog, check_order, is_between
from surehouse.errors import BadItem, BadName, BadNumber, BadOrder
from surehouse.flows import filled, lanes_to, serving, stocks_of, wanted, without_prices
from surehouse.promises import keeping

MOST_PROMISED = 12
LAST_DAY = 60
# A wish that is only thought of: no order has a void name.
NEW = ("", 0)


def is_named(orders, name):
    """Whether one of the orders has this name."""
    return name in [order[0] for order in orders]


def all_but(orders, name):
    """The orders without the one of this name."""
    return tuple([order for order in orders if order[0] != name])


def asked_all(catalog, orders):
    """What asking orders one behind another in a new book returns."""
    book = Book(catalog)
    if not isinstance(orders, tuple):
        raise BadOrder("orders to ask are a tuple")
    return tuple([book.ask(order) for order in orders])


class Book:
    """The orders that are promised."""

    def __init__(self, catalog):
        check_catalog(catalog)
        self._catalog = catalog
        self._promised = ()
        self._sent = ()
        self._refused = []

    @property
    def orders(self):
        """The promised orders, as they were asked."""
        return self._promised

    @property
    def refusals(self):
        """The pairs (order, ("cut", wishes)) of all that was refused."""
        return list(self._refused)

    def ask(self, order):
        """Promise an order if it and all that is promised can be kept; whether it is promised now."""
        check_order(self._catalog, order)
        if is_named(self._promised, order[0]):
            raise BadName("an order of this name is promised")
        if len(self._promised) >= MOST_PROMISED:
            raise BadName("as many orders are promised as can be")
        word, told = keeping(self._catalog, self._promised + (order,))
        if word == "cut":
            self._refused.append((order, (word, told)))
            return False
        self._promised = self._promised + (order,)
        self._sent = told
        return True

    def cancel(self, name):
        """Take a promised order out."""
        if not is_named(self._promised, name):
            raise BadName("no order of this name is promised")
        self._promised = all_but(self._promised, name)
        # The sends of the others are still a plan of them; a send begins with its order's name, too.
        self._sent = all_but(self._sent, name)

    def sends(self):
        """The sends of a plan of all that is promised."""
        return self._sent

    def most(self, items, region, by):
        """The greatest count of a wish that could be promised more, and the promised wishes that hold the rest."""
        self._check_wished(items, region)
        if not is_between(by, 0, LAST_DAY):
            raise BadItem("this is no day")
        flow = self._flow()
        count = self._give(flow, items, region, by)
        return (count, tuple([wish for wish in flow.rivals(NEW) if wish != NEW]))

    def earliest(self, items, region, count):
        """The first day by which so many could be promised, None without one."""
        self._check_wished(items, region)
        if not is_between(count, 1, 999):
            raise BadNumber("this is no count from 1 to 999")
        for day, most in enumerate(self._counts(items, region)):
            if most >= count:
                return day
        return None

    def curve(self, items, region):
        """The pairs (day, count) at each day by which more could be promised than by the day ahead."""
        self._check_wished(items, region)
        counts = self._counts(items, region)
        return tuple([(day, count) for day, (ahead, count) in enumerate(zip([0] + counts, counts)) if count > ahead])

    def _check_wished(self, items, region):
        """Raise BadItem for what is no items of a wish, or no region."""
        if not are_wished(self._catalog, items):
            raise BadItem("these are no items of a wish")
        if region not in self._catalog[1]:
            raise BadItem("this is no region")

    def _flow(self):
        """The flow that serves all that is promised."""
        lanes = serving(self._catalog, self._promised)
        return filled(stocks_of(self._catalog), wanted(self._promised), without_prices(lanes))[0]

    def _give(self, flow, items, region, by):
        """Give the new wish as much as can be by a day, beside what it has got; how much more that is."""
        lanes = lanes_to(self._catalog, items, region, by)
        flow.enter(NEW, {supply: 0 for supply in lanes})
        return flow.give(NEW, sum([supply[4] for supply in self._catalog[4]]))

    def _counts(self, items, region):
        """The greatest count of a wish by each day from 0 on."""
        flow = self._flow()
        counts = []
        count = 0
        # What can serve a wish by a day can do so by any later day: the flow only grows.
        for day in range(LAST_DAY + 1):
            count += self._give(flow, items, region, day)
            counts.append(count)
        return counts
