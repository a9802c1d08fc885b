"""Deals of a shop with its houses and a bank, and the letters between them (points 20 to 22).

A letter is (to, word, deal, from). Houses and the bank are called keepers: each keeps a log of its own.
"""

from surehouse.catalogs import are_unlike, is_between, is_name, is_row
from surehouse.errors import BadDeals, BadEvent

SHOP = "shop"
BANK = "bank"
MOST_CENTS = 10 ** 9

# What a stage asks of a house and of the bank: (word, answer that the shop waits for).
ASKS = {
    "begun": (("reserve", "reserved"), ("hold", "held")),
    "go": (("send", "sent"), ("take", "taken")),
    "drop": (("release", "released"), ("free", "freed")),
    "return": (("restock", "restocked"), ("refund", "refunded")),
}
# The word that the shop writes when it has heard all that a stage asks.
HEARD_ALL = {"begun": "go", "go": "ended", "drop": "ended", "return": "returned"}
# The answers that make the shop drop a deal that has only begun.
REFUSALS = ("full", "poor", "released", "freed")

# By the word that a keeper reads and its last word of the deal: what it answers, and what it writes, "" for nothing.
ANSWERS = {
    ("reserve", "reserved"): ("reserved", ""),
    ("reserve", "sent"): ("reserved", ""),
    ("reserve", "back"): ("reserved", ""),
    ("reserve", "released"): ("released", ""),
    ("send", "reserved"): ("sent", "sent"),
    ("send", "sent"): ("sent", ""),
    ("send", "back"): ("sent", ""),
    ("release", ""): ("released", "released"),
    ("release", "reserved"): ("released", "released"),
    ("release", "released"): ("released", ""),
    ("restock", "sent"): ("restocked", "back"),
    ("restock", "back"): ("restocked", ""),
    ("hold", "held"): ("held", ""),
    ("hold", "taken"): ("held", ""),
    ("hold", "refunded"): ("held", ""),
    ("hold", "freed"): ("freed", ""),
    ("take", "held"): ("taken", "taken"),
    ("take", "taken"): ("taken", ""),
    ("take", "refunded"): ("taken", ""),
    ("free", ""): ("freed", "freed"),
    ("free", "held"): ("freed", "freed"),
    ("free", "freed"): ("freed", ""),
    ("refund", "taken"): ("refunded", "refunded"),
    ("refund", "refunded"): ("refunded", ""),
}


def is_stock(value):
    """Whether a value is a supply of a world: (name, house, count)."""
    if not is_row(value, 3, 3):
        return False
    name, house, count = value
    return is_name(name) and is_name(house) and house not in (SHOP, BANK) and is_between(count, 0, 99)


def is_buyer(value):
    """Whether a value is a buyer: (name, cents)."""
    return is_row(value, 2, 2) and is_name(value[0]) and is_between(value[1], 0, MOST_CENTS)


def is_part(stocks, value):
    """Whether a value is a part of a deal: (one of the supplies, count)."""
    return is_row(value, 2, 2) and value[0] in stocks and is_between(value[1], 1, 99)


def is_deal(stocks, buyers, value):
    """Whether a value is a deal of one of the buyers about some of the supplies: (name, buyer, parts, cents)."""
    if not is_row(value, 4, 4):
        return False
    name, buyer, parts, cents = value
    if not is_name(name) or buyer not in buyers or not is_between(cents, 0, MOST_CENTS):
        return False
    if not is_row(parts, 1, 8) or not all([is_part(stocks, part) for part in parts]):
        return False
    return are_unlike(firsts(parts))


def firsts(rows):
    """The first value of each row: the names of supplies, deals or buyers."""
    return [row[0] for row in rows]


def check_world(supplies, deals, buyers):
    """Raise BadDeals for values that make no world."""
    if not is_row(supplies, 0, 8) or not all([is_stock(supply) for supply in supplies]):
        raise BadDeals("these are no supplies")
    if not is_row(buyers, 0, 6) or not all([is_buyer(buyer) for buyer in buyers]):
        raise BadDeals("these are no buyers")
    if not is_row(deals, 0, 6) or not all([is_deal(firsts(supplies), firsts(buyers), deal) for deal in deals]):
        raise BadDeals("these are no deals")
    if not all([are_unlike(firsts(rows)) for rows in (supplies, deals, buyers)]):
        raise BadDeals("two names are alike")


def last_word(log, deal):
    """The last word of a deal in a log, "" without one."""
    for word, name in reversed(log):
        if name == deal:
            return word
    return ""


def swapped(row, place, value):
    """The tuple with another value at a place."""
    return row[:place] + (value,) + row[place + 1:]


def joined(rows, more):
    """The ascending tuple of all of these, each once."""
    return tuple(sorted(set(rows + more)))


def took(log, deal, word):
    """The log with one more word of a deal; the same one for no word."""
    return log if word == "" else log + ((word, deal),)


def free_of(counts):
    """What is free of what there was, less all that is elsewhere."""
    return counts[0] - sum(counts[1:])


class Rules:
    """How events lead from state to state in a world of these supplies, deals and buyers."""

    def __init__(self, setup):
        self.supplies, self.deals, self.buyers = setup
        # A dict keeps the order in which houses come first, and each once.
        self.houses = list({supply[1]: True for supply in self.supplies})
        self.names = firsts(self.deals)
        house_of = {supply[0]: supply[1] for supply in self.supplies}
        self.houses_of = {deal[0]: list({house_of[part[0]]: True for part in deal[2]}) for deal in self.deals}
        self.shares = {(deal[0], house): [part for part in deal[2] if house_of[part[0]] == house]
                       for deal in self.deals for house in self.houses_of[deal[0]]}

    def start(self):
        """The state at first."""
        return ((), (), tuple([() for _ in self.houses]), (), ())

    def log_of(self, state, keeper):
        """The log of a house or of the bank."""
        return state[3] if keeper == BANK else state[2][self.houses.index(keeper)]

    def asked(self, name, stage):
        """What a stage asks: the rows (keeper, word, answer that the shop waits for)."""
        if stage not in ASKS:
            return []
        of_house, of_bank = ASKS[stage]
        return [(house,) + of_house for house in self.houses_of[name]] + [(BANK,) + of_bank]

    def letters_due(self, state):
        """All letters that stages ask and the shop has not heard."""
        return tuple([(keeper, word, name, SHOP) for name in self.names
                      for keeper, word, answer in self.asked(name, last_word(state[0], name))
                      if (name, keeper, answer) not in state[1]])

    def is_asking(self, state):
        """Whether a stage asks anything."""
        return any([last_word(state[0], name) in ASKS for name in self.names])

    def turn(self, shop, name):
        """The event by which a deal may turn now, and the word that the shop writes then; () for none."""
        stage = last_word(shop, name)
        if stage == "":
            return ("begin", "begun")
        if stage == "begun":
            return ("give up", "drop")
        if stage == "ended" and ("go", name) in shop:
            return ("return", "return")
        return ()

    def events(self, state):
        """All events that can be now."""
        turns = [(self.turn(state[0], name), name) for name in self.names]
        events = [(turn[0], name) for turn, name in turns if turn != ()] + [("tick",)]
        events.extend([(word, letter) for letter in state[4] for word in ("come", "double", "lose")])
        return events + [("fall", who) for who in [SHOP, BANK] + self.houses]

    def behind(self, state, event):
        """The state behind an event that can be."""
        if event[0] == "tick":
            return swapped(state, 4, joined(state[4], self.letters_due(state)))
        if event[0] == "fall":
            return self.fallen(state, event[1])
        if event[0] == "double":
            return self.read(state, event[1])
        if event[0] in ("come", "lose"):
            left = swapped(state, 4, tuple([letter for letter in state[4] if letter != event[1]]))
            return left if event[0] == "lose" else self.read(left, event[1])
        return swapped(state, 0, took(state[0], event[1], self.turn(state[0], event[1])[1]))

    def fallen(self, state, who):
        """The state when a machine fell: letters to it are lost, and the shop forgets what it heard."""
        left = swapped(state, 4, tuple([letter for letter in state[4] if letter[0] != who]))
        return swapped(left, 1, ()) if who == SHOP else left

    def read(self, state, letter):
        """The state when a letter was read."""
        to, word, name, sender = letter
        if to == SHOP:
            return self.remembered(state, name, sender, word)
        return self.answered(state, to, word, name)

    def remembered(self, state, name, sender, word):
        """The state when the shop read an answer."""
        stage = last_word(state[0], name)
        if stage == "":
            return state
        heard = joined(state[1], ((name, sender, word),))
        shop = took(state[0], name, self.word_due(name, stage, heard))
        return (shop, heard) + state[2:]

    def word_due(self, name, stage, heard):
        """The word that the shop writes behind a letter, "" for none."""
        if stage == "begun" and any([one == name and word in REFUSALS for one, _, word in heard]):
            return "drop"
        if stage not in ASKS or not all([(name, keeper, answer) in heard
                                         for keeper, _, answer in self.asked(name, stage)]):
            return ""
        return HEARD_ALL[stage]

    def answered(self, state, keeper, word, name):
        """The state when a house or the bank read what the shop asks."""
        last = last_word(self.log_of(state, keeper), name)
        if last == "" and word in ("reserve", "hold"):
            answer, written = self.first_answer(state, keeper, name)
        elif (word, last) in ANSWERS:
            answer, written = ANSWERS[(word, last)]
        else:
            return state
        letters = joined(state[4], ((SHOP, answer, name, keeper),))
        if keeper == BANK:
            return state[:3] + (took(state[3], name, written), letters)
        place = self.houses.index(keeper)
        houses = swapped(state[2], place, took(state[2][place], name, written))
        return state[:2] + (houses, state[3], letters)

    def first_answer(self, state, keeper, name):
        """What a keeper that has no word of a deal answers and writes when it is to reserve or to hold."""
        if keeper == BANK:
            deal = self.deals[self.names.index(name)]
            left = free_of(self.coins_of(state, deal[1]))
            return ("held", "held") if left >= deal[3] else ("poor", "")
        fits = all([free_of(self.things_of(state, supply)) >= count for supply, count in self.shares[(name, keeper)]])
        return ("reserved", "reserved") if fits else ("full", "")

    def things_of(self, state, supply):
        """Of a supply: how much there was, and what is reserved, sent and back."""
        _, house, count = self.supplies[firsts(self.supplies).index(supply)]
        log = self.log_of(state, house)
        parts = [(last_word(log, deal[0]), many) for deal in self.deals for one, many in deal[2] if one == supply]
        return [count] + [sum([many for last, many in parts if last == word])
                          for word in ("reserved", "sent", "back")]

    def coins_of(self, state, buyer):
        """Of a buyer's cents: how many there were, and what is held and taken."""
        cents = self.buyers[firsts(self.buyers).index(buyer)][1]
        parts = [(last_word(state[3], deal[0]), deal[3]) for deal in self.deals if deal[1] == buyer]
        return [cents] + [sum([many for last, many in parts if last == word]) for word in ("held", "taken")]

    def things(self, state):
        """The rows (supply, free, reserved, sent, back)."""
        rows = [(name, self.things_of(state, name)) for name in firsts(self.supplies)]
        return tuple([(name, free_of(counts)) + tuple(counts[1:]) for name, counts in rows])

    def coins(self, state):
        """The rows (buyer, with the buyer, held, taken)."""
        rows = [(name, self.coins_of(state, name)) for name in firsts(self.buyers)]
        return tuple([(name, free_of(counts)) + tuple(counts[1:]) for name, counts in rows])

    def next_to_end(self, state):
        """The event with which a world goes on while a stage asks."""
        return ("come", state[4][0]) if state[4] else ("tick",)


class World:
    """A shop, its houses and a bank, with the deals between them and the letters under way."""

    def __init__(self, supplies, deals, buyers):
        check_world(supplies, deals, buyers)
        self.setup = (supplies, deals, buyers)
        self._rules = Rules(self.setup)
        self.state = self._rules.start()
        self._done = []

    @property
    def log(self):
        """All events done."""
        return tuple(self._done)

    @property
    def letters(self):
        """All letters under way."""
        return self.state[4]

    def do(self, event):
        """Do an event that can be now."""
        if event not in self.can():
            raise BadEvent("this is no event that can be now")
        self._go(event)

    def can(self):
        """All events that can be now."""
        return self._rules.events(self.state)

    def stage(self, deal):
        """The last word of a deal in the shop's log, "" at first."""
        if deal not in self._rules.names:
            raise BadDeals("this is no deal")
        return last_word(self.state[0], deal)

    def things(self):
        """The rows (supply, free, reserved, sent, back)."""
        return self._rules.things(self.state)

    def coins(self):
        """The rows (buyer, with the buyer, held, taken)."""
        return self._rules.coins(self.state)

    def finish(self):
        """Ticks and letters that come until no stage asks any more; how many events that took."""
        many = 0
        while self._rules.is_asking(self.state):
            self._go(self._rules.next_to_end(self.state))
            many += 1
        return many

    def _go(self, event):
        """Do an event that is known to be one that can be."""
        self.state = self._rules.behind(self.state, event)
        self._done.append(event)
