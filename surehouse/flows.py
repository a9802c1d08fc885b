"""Which supplies can serve which wishes, and how things go from them to wishes (point 4).

A wish is told by its pair (order, place of the wish in it), a supply by its name.
"""


def lanes_to(catalog, items, region, by, day=0):
    """The lanes, by supply, of those that can serve a wish with what they send from a day on."""
    lanes = {lane[0]: lane for lane in catalog[3] if lane[1] == region}
    found = {}
    for name, house, item, first, _ in catalog[4]:
        if item in items and house in lanes and max(first, day) + lanes[house][3] <= by:
            found[name] = lanes[house]
    return found


def serving(catalog, orders, day=0):
    """By wish: the lanes of the supplies that can serve it with what they send from a day on."""
    return {(name, place): lanes_to(catalog, wish[0], region, by, day)
            for name, region, wishes, by, _ in orders for place, wish in enumerate(wishes)}


def wanted(orders):
    """By wish, in order: its count."""
    return {(order[0], place): wish[1] for order in orders for place, wish in enumerate(order[2])}


def stocks_of(catalog):
    """By supply, in order: what it has."""
    return {supply[0]: supply[4] for supply in catalog[4]}


def without_prices(lanes):
    """By wish and supply: 0, where the price of a lane does not matter."""
    return {wish: {supply: 0 for supply in found} for wish, found in lanes.items()}


def filled(stocks, wants, prices):
    """The flow in which wishes get what they want, one behind another, and the first one that lacks, or None."""
    flow = Flow(stocks)
    for wish, count in wants.items():
        flow.enter(wish, prices[wish])
        if flow.give(wish, count) < count:
            return flow, wish
    return flow, None


class Flow:
    """What each supply sends to each wish: of all ways to give the wishes as much as they got, a cheapest one.

    It stays one because each thing is given on a cheapest way; so no row of exchanges ever saves anything.
    """

    def __init__(self, stocks):
        self.rests = dict(stocks)
        self.prices = {}
        self.parts = {supply: {} for supply in stocks}

    def enter(self, wish, prices):
        """A wish comes, with the price at each supply that can serve it."""
        self.prices[wish] = prices

    def give(self, wish, most):
        """Give a wish at most so many things more; how many it got."""
        given = 0
        while given < most:
            ways = self.ways(wish)
            ends = [(ways[supply][0], supply) for supply in ways if self.rests[supply] > 0]
            if not ends:
                return given
            given += self.move(ways, min(ends)[1], most - given)
        return given

    def ways(self, wish):
        """How a wish can get a thing of each supply in reach: (price, who takes it, what that one took from).

        Who takes it is the wish itself, and took from None, or a wish that leaves its own thing to another.
        """
        ways = {}
        steps = [(price, supply, wish, None) for supply, price in self.prices[wish].items()]
        while steps:
            later = []
            for price, supply, taker, source in steps:
                if supply in ways and ways[supply][0] <= price:
                    continue
                ways[supply] = (price, taker, source)
                # Where something is left, nobody has to leave a thing to another.
                if self.rests[supply] == 0:
                    later.extend(self.exchanges(price, supply))
            steps = later
        return ways

    def exchanges(self, price, supply):
        """The steps by which those who take from a supply, reached at a price, may take elsewhere."""
        return [(price - self.prices[taker][supply] + other, elsewhere, taker, supply)
                for taker in self.parts[supply] for elsewhere, other in self.prices[taker].items()]

    def move(self, ways, end, most):
        """Move at most so many things along the way to a supply that has some left; how many it were."""
        steps = []
        supply = end
        while supply is not None:
            _, taker, source = ways[supply]
            steps.append((supply, taker, source))
            supply = source
        left = [self.parts[source][taker] for _, taker, source in steps if source is not None]
        count = min([most, self.rests[end]] + left)
        for supply, taker, source in steps:
            self.parts[supply][taker] = self.parts[supply].get(taker, 0) + count
            if source is not None:
                self.take_back(source, taker, count)
        self.rests[end] -= count
        return count

    def take_back(self, supply, wish, count):
        """So much less is sent from a supply to a wish."""
        if self.parts[supply][wish] == count:
            del self.parts[supply][wish]
        else:
            self.parts[supply][wish] -= count

    def rivals(self, wish):
        """A wish that can get nothing more, and those that hold what it could have: the wishes, in order."""
        held = {wish: True}
        for supply in self.ways(wish):
            for taker in self.parts[supply]:
                held[taker] = True
        return tuple([one for one in self.prices if one in held])

    def told(self):
        """The sends (order, place, supply, count), in the order of wishes and supplies."""
        return tuple([wish + (supply, parts[wish]) for wish in self.prices
                      for supply, parts in self.parts.items() if wish in parts])
