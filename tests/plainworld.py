"""Points 20 to 22 and 25 said once more, sentence by sentence, and worlds drawn from a seed."""

from draws import NAMES, some

# The bank's words, in those of a house: what the bank reads, what it writes and what it answers.
LIKE_A_HOUSE = {"hold": "reserve", "take": "send", "free": "release", "refund": "restock",
                "held": "reserved", "taken": "sent", "freed": "released", "refunded": "back"}
WRITTEN_BY_BANK = {"reserved": "held", "sent": "taken", "released": "freed", "back": "refunded"}
ANSWERED_BY_BANK = {"reserved": "held", "full": "poor", "sent": "taken", "released": "freed", "restocked": "refunded"}
ASKED = {"begun": ("reserve", "hold"), "go": ("send", "take"), "drop": ("release", "free"),
         "return": ("restock", "refund")}
WAITED_FOR = {"begun": ("reserved", "held"), "go": ("sent", "taken"), "drop": ("released", "freed"),
              "return": ("restocked", "refunded")}


class PlainWorld:
    """A world in lists and sets that change."""

    def __init__(self, supplies, deals, buyers):
        self.supplies, self.deals, self.buyers = supplies, deals, buyers
        self.houses = []
        for supply in supplies:
            if supply[1] not in self.houses:
                self.houses.append(supply[1])
        self.logs = {who: [] for who in ["shop", "bank"] + self.houses}
        self.heard, self.letters = set(), set()

    def state(self):
        return (tuple(self.logs["shop"]), tuple(sorted(self.heard)),
                tuple([tuple(self.logs[house]) for house in self.houses]), tuple(self.logs["bank"]),
                tuple(sorted(self.letters)))

    def last(self, who, name):
        words = [word for word, one in self.logs[who] if one == name]
        return words[-1] if words else ""

    def keepers(self, deal):
        """The deal's houses, those of its parts, and the bank."""
        houses = [supply[1] for supply in self.supplies if supply[0] in [part[0] for part in deal[2]]]
        return [house for house in self.houses if house in houses] + ["bank"]

    def deal(self, name):
        return [deal for deal in self.deals if deal[0] == name][0]

    def can(self):
        """The set of all events that can be."""
        events = {("tick",)} | {("fall", who) for who in self.logs}
        for deal in self.deals:
            stage = self.last("shop", deal[0])
            if stage == "":
                events.add(("begin", deal[0]))
            if stage == "begun":
                events.add(("give up", deal[0]))
            if stage == "ended" and ("go", deal[0]) in self.logs["shop"]:
                events.add(("return", deal[0]))
        return events | {(word, letter) for letter in self.letters for word in ("come", "double", "lose")}

    def do(self, event):
        word = event[0]
        if word in ("begin", "give up", "return"):
            self.logs["shop"].append(({"begin": "begun", "give up": "drop", "return": "return"}[word], event[1]))
        elif word == "tick":
            self.letters |= set(self.due())
        elif word == "fall":
            self.letters = {letter for letter in self.letters if letter[0] != event[1]}
            if event[1] == "shop":
                self.heard = set()
        else:
            if word in ("come", "lose"):
                self.letters.remove(event[1])
            if word in ("come", "double"):
                self.read(*event[1])

    def wanted(self, deal, stage):
        """The triples that the shop waits to hear at a stage."""
        return [(deal[0], keeper, WAITED_FOR[stage][keeper == "bank"]) for keeper in self.keepers(deal)]

    def due(self):
        for deal in self.deals:
            stage = self.last("shop", deal[0])
            if stage in ASKED:
                for keeper, told in zip(self.keepers(deal), self.wanted(deal, stage)):
                    if told not in self.heard:
                        yield (keeper, ASKED[stage][keeper == "bank"], deal[0], "shop")

    def read(self, to, word, name, sender):
        if to == "shop":
            self.hear(name, sender, word)
            return
        last = self.last(to, name)
        answer, written = self.as_house(to, name, LIKE_A_HOUSE.get(word, word), LIKE_A_HOUSE.get(last, last))
        if written:
            self.logs[to].append((WRITTEN_BY_BANK[written] if to == "bank" else written, name))
        if answer:
            self.letters.add(("shop", ANSWERED_BY_BANK[answer] if to == "bank" else answer, name, to))

    def as_house(self, who, name, word, last):
        """What a house answers and writes, by the sentences of point 21."""
        if word == "reserve":
            if last == "released":
                return "released", None
            if last != "":
                return "reserved", None
            return ("reserved", "reserved") if self.has_free(who, name) else ("full", None)
        if word == "send" and last in ("reserved", "sent", "back"):
            return "sent", "sent" if last == "reserved" else None
        if word == "release" and last in ("", "reserved", "released"):
            return "released", None if last == "released" else "released"
        if word == "restock" and last in ("sent", "back"):
            return "restocked", "back" if last == "sent" else None
        return None, None

    def has_free(self, who, name):
        deal = self.deal(name)
        if who == "bank":
            return {row[0]: row[1] for row in self.coins()}[deal[1]] >= deal[3]
        free = {row[0]: row[1] for row in self.things()}
        house_of = {supply[0]: supply[1] for supply in self.supplies}
        return all(free[supply] >= count for supply, count in deal[2] if house_of[supply] == who)

    def hear(self, name, sender, word):
        stage = self.last("shop", name)
        if stage == "":
            return
        self.heard.add((name, sender, word))
        all_heard = stage in ASKED and set(self.wanted(self.deal(name), stage)) <= self.heard
        words = {told[2] for told in self.heard if told[0] == name}
        if stage == "begun" and words & {"full", "poor", "released", "freed"}:
            self.logs["shop"].append(("drop", name))
        elif all_heard:
            self.logs["shop"].append(({"begun": "go", "go": "ended", "drop": "ended", "return": "returned"}[stage], name))

    def things(self):
        rows = []
        for name, house, count in self.supplies:
            at = {"reserved": 0, "sent": 0, "back": 0}
            for deal in self.deals:
                for supply, many in deal[2]:
                    if supply == name and self.last(house, deal[0]) in at:
                        at[self.last(house, deal[0])] += many
            rows.append((name, count - sum(at.values()), at["reserved"], at["sent"], at["back"]))
        return tuple(rows)

    def coins(self):
        rows = []
        for name, cents in self.buyers:
            at = {"held": 0, "taken": 0}
            for deal in self.deals:
                if deal[1] == name and self.last("bank", deal[0]) in at:
                    at[self.last("bank", deal[0])] += deal[3]
            rows.append((name, cents - sum(at.values()), at["held"], at["taken"]))
        return tuple(rows)


def world_at(setup, state):
    """The plain world with the logs of a state."""
    world = PlainWorld(*setup)
    world.logs["shop"], world.logs["bank"] = list(state[0]), list(state[3])
    for house, log in zip(world.houses, state[2]):
        world.logs[house] = list(log)
    return world


def is_sound(setup, state):
    """Point 25: whether a state has no fault."""
    world = world_at(setup, state)
    if any(min(row[1:]) < 0 for row in world.things() + world.coins()):
        return False
    return all(is_sound_deal(world, deal) for deal in world.deals)


def is_sound_deal(world, deal):
    told = [word for word, one in world.logs["shop"] if one == deal[0]]
    if told not in ([], ["begun"], ["begun", "go"], ["begun", "go", "ended"], ["begun", "go", "ended", "return"],
                    ["begun", "go", "ended", "return", "returned"], ["begun", "drop"], ["begun", "drop", "ended"]):
        return False
    for who in world.houses + ["bank"]:
        words = [LIKE_A_HOUSE.get(word, word) for word, one in world.logs[who] if one == deal[0]]
        if who not in world.keepers(deal):
            if words:
                return False
            continue
        if words not in ([], ["reserved"], ["released"], ["reserved", "released"], ["reserved", "sent"],
                         ["reserved", "sent", "back"]):
            return False
        if ("sent" in words and "go" not in told) or ("go" in told and "reserved" not in words):
            return False
        if ("released" in words and "drop" not in told) or ("back" in words and "return" not in told):
            return False
        if "ended" in told and ("sent" if "go" in told else "released") not in words:
            return False
        if "returned" in told and "back" not in words:
            return False
    return True


def drawn_setup(draw, supplies=4, deals=3, buyers=2, most=3):
    """Supplies, deals and buyers of a small world, in which some deals fail for things and some for coins."""
    stocks = tuple(["s%d" % place for place in range(draw.randint(1, supplies))])
    rows = tuple([(name, draw.choice(("east", "west", "abc", "zoo")), draw.randint(0, most)) for name in stocks])
    people = tuple([("b%d" % place, draw.randint(0, 9)) for place in range(draw.randint(1, buyers))])
    deals = tuple([(name, draw.choice(people)[0],
                    tuple([(supply, draw.randint(1, 2)) for supply in some(draw, stocks, 1, 3)]), draw.randint(0, 6))
                   for name in NAMES[:draw.randint(1, deals)]])
    return rows, deals, people


def next_event(draw, world):
    """One of the events that can be: mostly those that bring deals on."""
    events = world.can()
    kind = draw.choice(("begin", "come", "come", "come", "tick", "tick", "double", "lose", "fall", "give up",
                        "return", "any"))
    if kind == "fall" and draw.random() < 0.6:
        kind = "come"
    if kind == "give up" and draw.random() < 0.6:
        kind = "begin"
    return draw.choice(sorted([event for event in events if event[0] == kind] or events, key=repr))
