"""What cannot be in a state of a world, if each coin and each thing is in one place (point 25)."""

from surehouse.catalogs import is_row
from surehouse.errors import BadDeals, BadEvent
from surehouse.worlds import BANK, SHOP, Rules, World, check_world

# A deal's words in the shop's log are the first ones of one of these.
SHOP_WAYS = (("begun", "go", "ended", "return", "returned"), ("begun", "drop", "ended"))
# A deal's words in a house's log, or in the bank's, are one of these, if it has a part of it.
HOUSE_WAYS = ((), ("reserved",), ("released",), ("reserved", "released"), ("reserved", "sent"),
              ("reserved", "sent", "back"))
BANK_WAYS = ((), ("held",), ("freed",), ("held", "freed"), ("held", "taken"), ("held", "taken", "refunded"))

SHOP_WORDS = ("begun", "go", "drop", "ended", "return", "returned")
HOUSE_WORDS = ("reserved", "sent", "released", "back")
BANK_WORDS = ("held", "taken", "freed", "refunded")

# The word of the shop without which a house or the bank does not write this.
NEEDS = {"sent": "go", "taken": "go", "released": "drop", "freed": "drop", "back": "return", "refunded": "return"}
# With all of these words of the shop, each house of the deal has written the one word, and the bank the other.
DUES = (
    (("go",), "reserved", "held"),
    (("ended", "go"), "sent", "taken"),
    (("ended", "drop"), "released", "freed"),
    (("returned",), "back", "refunded"),
)


def faults(supplies, deals, buyers, state):
    """The triples (word, who, name) of what cannot be in a state."""
    check_world(supplies, deals, buyers)
    rules = Rules((supplies, deals, buyers))
    check_state(rules, state)
    return faults_in(rules, state)


def audit(world):
    """The faults of a world: none."""
    check_is_world(world)
    supplies, deals, buyers = world.setup
    return faults(supplies, deals, buyers, world.state)


def check_is_world(world):
    """Raise BadDeals for a value that is no World."""
    if not isinstance(world, World):
        raise BadDeals("this is no world")


def is_log(words, names, value):
    """Whether a value is a log of these words and names of deals."""
    if not isinstance(value, tuple) or not all([is_row(row, 2, 2) for row in value]):
        return False
    return all([word in words and name in names for word, name in value])


def check_state(rules, state):
    """Raise BadEvent for a value that has not the form of a state; heard and letters are any tuples."""
    if not is_row(state, 5, 5):
        raise BadEvent("a state is a tuple of five")
    shop, heard, houses, bank, letters = state
    many = len(rules.houses)
    if not isinstance(heard, tuple) or not isinstance(letters, tuple) or not is_row(houses, many, many):
        raise BadEvent("heard and letters are tuples, and there is a log for each house")
    if not is_log(SHOP_WORDS, rules.names, shop) or not is_log(BANK_WORDS, rules.names, bank):
        raise BadEvent("this is no log of the shop, or of the bank")
    if not all([is_log(HOUSE_WORDS, rules.names, log) for log in houses]):
        raise BadEvent("this is no log of a house")


def faults_in(rules, state):
    """The faults of a state that is known to have the form of one."""
    found = below(rules, state)
    for name in rules.names:
        found.extend(faults_of(rules, state, name))
    return found


def below(rules, state):
    """The faults of things in a house, and of coins of a buyer, that are fewer than none."""
    things = [("below", supply[1], supply[0]) for supply, row in zip(rules.supplies, rules.things(state))
              if min(row[1:]) < 0]
    return things + [("below", BANK, row[0]) for row in rules.coins(state) if min(row[1:]) < 0]


def words_of(log, name):
    """The words of a deal in a log, in order."""
    return tuple([word for word, one in log if one == name])


def faults_of(rules, state, name):
    """The faults of a deal's words."""
    told = words_of(state[0], name)
    found = [] if any([told == way[:len(told)] for way in SHOP_WAYS]) else [("order", SHOP, name)]
    for keeper in rules.houses + [BANK]:
        words = words_of(rules.log_of(state, keeper), name)
        if words not in ways_of(rules, keeper, name):
            found.append(("order", keeper, name))
        found.extend([(word, keeper, name) for word in words if word in NEEDS and NEEDS[word] not in told])
    return found + lacking(rules, state, name, told)


def ways_of(rules, keeper, name):
    """The rows of words of a deal that a house or the bank may have."""
    if keeper == BANK:
        return BANK_WAYS
    return HOUSE_WAYS if keeper in rules.houses_of[name] else ((),)


def lacking(rules, state, name, told):
    """The faults of what has not been written, as far as the shop has gone."""
    found = []
    for words, of_house, of_bank in DUES:
        if all([word in told for word in words]):
            for keeper in rules.houses_of[name] + [BANK]:
                due = of_bank if keeper == BANK else of_house
                if due not in words_of(rules.log_of(state, keeper), name):
                    found.append((due, keeper, name))
    return found
