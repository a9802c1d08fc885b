"""All states that the events of a world lead to (points 23 and 24)."""

from surehouse.audits import faults_in
from surehouse.catalogs import is_between
from surehouse.errors import BadEvent
from surehouse.worlds import Rules, World, check_world

MOST_STATES = 20000


def reached(supplies, deals, buyers, most):
    """(states, whether they are all): the first state, and state by state those that events lead to."""
    return states_reached(rules_of(supplies, deals, buyers, most), most)


def rules_of(supplies, deals, buyers, most):
    """The rules of a world of which at most so many states are looked at."""
    check_world(supplies, deals, buyers)
    if not is_between(most, 1, MOST_STATES):
        raise BadEvent("this is no number of states")
    return Rules((supplies, deals, buyers))


def states_reached(rules, most):
    """What reached tells of a world with these rules."""
    states = [rules.start()]
    known = {states[0]: True}
    at = 0
    while at < len(states):
        for event in rules.events(states[at]):
            state = rules.behind(states[at], event)
            if state in known:
                continue
            if len(states) == most:
                return (tuple(states), False)
            known[state] = True
            states.append(state)
        at += 1
    return (tuple(states), True)


def replayed(supplies, deals, buyers, events):
    """The state behind a tuple of events."""
    world = World(supplies, deals, buyers)
    if not isinstance(events, tuple):
        raise BadEvent("events to replay are a tuple")
    for event in events:
        world.do(event)
    return world.state


def first_fault(supplies, deals, buyers, most):
    """The first of the states reached that has a fault, None without one."""
    rules = rules_of(supplies, deals, buyers, most)
    for state in states_reached(rules, most)[0]:
        if faults_in(rules, state):
            return state
    return None


def all_end(supplies, deals, buyers, most):
    """Whether from each of the states reached finishing leads to a state without faults."""
    rules = rules_of(supplies, deals, buyers, most)
    good = {}
    return all([ends_well(rules, state, good) for state in states_reached(rules, most)[0]])


def ends_well(rules, state, good):
    """Whether finishing leads to a state without faults; good keeps the states of which that is known."""
    way = [state]
    while way[-1] not in good and rules.is_asking(way[-1]):
        way.append(rules.behind(way[-1], rules.next_to_end(way[-1])))
    if way[-1] not in good and faults_in(rules, way[-1]):
        return False
    # The ways of many states run together: none is walked twice.
    for one in way:
        good[one] = True
    return True
