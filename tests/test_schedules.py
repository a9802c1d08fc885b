"""All states that a world can reach (points 23 and 24, surehouse/schedules.py)."""

import copy
import itertools
import random
import unittest

from plainworld import PlainWorld, drawn_setup, is_sound, next_event, world_at
from samples import ODD_VALUES
from surehouse import schedules
from surehouse.audits import faults
from surehouse.errors import BadDeals, BadEvent
from surehouse.schedules import all_end, first_fault, reached, replayed
from surehouse.worlds import World

# One deal of one supply: it can be kept, the house is full, the buyer is poor, or both.
KEPT = ((("s", "east", 1),), (("d", "ann", (("s", 1),), 5),), (("ann", 5),))
FULL = ((("s", "east", 0),), KEPT[1], KEPT[2])
POOR = (KEPT[0], KEPT[1], (("ann", 4),))
BOTH = (FULL[0], KEPT[1], POOR[2])
# Two deals that want the same thing, and the same coins.
TWO = (KEPT[0], (("d", "ann", (("s", 1),), 5), ("e", "ann", (("s", 1),), 5)), KEPT[2])
# One deal of two houses, and nothing to do.
WIDE = ((("s", "east", 1), ("t", "west", 1)), (("d", "ann", (("s", 1), ("t", 1)), 5),), KEPT[2])
NO_DEALS = ((("s", "east", 2),), (), (("ann", 9),))
VOID = ((), (), ())

WRONG_NUMBERS = (0, -1, 20001, True, False, None, "1", (), [], {}, (1,), 10 ** 30)


def plain_at(setup, state):
    """The plain world in a state."""
    world = world_at(setup, state)
    world.heard, world.letters = set(state[1]), set(state[4])
    return world


def plain_steps(setup, state):
    """The states that the events of a state lead to."""
    found = set()
    for event in plain_at(setup, state).can():
        world = plain_at(setup, state)
        world.do(event)
        found.add(world.state())
    return found


def plain_reached(setup):
    """All states of a world, told as rows of those that are as many events away from the first one."""
    rows, known = [{PlainWorld(*setup).state()}], {PlainWorld(*setup).state()}
    while rows[-1]:
        later = set().union(*[plain_steps(setup, state) for state in rows[-1]]) - known
        known |= later
        rows.append(later)
    return rows[:-1]


class ReachedTest(unittest.TestCase):

    def test_defined_in_their_file(self):
        for function in (reached, replayed, first_fault, all_end):
            self.assertEqual(function.__module__, schedules.__name__)

    def test_example(self):
        self.assertEqual(reached((("s", "east", 2),), (), (("ann", 9),), 5), ((((), (), ((),), (), ()),), True))

    def test_worlds_without_deals(self):
        for setup, houses in ((NO_DEALS, ((),)), (VOID, ())):
            for most in (1, 2, 20000):
                self.assertEqual(reached(*setup, most), ((((), (), houses, (), ()),), True))

    def test_all_states_of_a_deal_that_cannot_be(self):
        rows = plain_reached(BOTH)
        states, are_all = reached(*BOTH, 20000)
        self.assertIs(are_all, True)
        self.assertEqual(len(states), sum(len(row) for row in rows))
        self.assertEqual(states[0], ((), (), ((),), (), ()))
        # Those that are fewer events away from the first one stand ahead, each once.
        at = 0
        for row in rows:
            self.assertEqual(set(states[at:at + len(row)]), row)
            at += len(row)

    def test_just_as_many_and_one_fewer(self):
        states, are_all = reached(*BOTH, 20000)
        self.assertTrue(are_all)
        many = len(states)
        self.assertEqual(reached(*BOTH, many), (states, True))
        self.assertEqual(reached(*BOTH, many + 1), (states, True))
        self.assertEqual(reached(*BOTH, many - 1), (states[:-1], False))
        for most in (1, 2, 10, 99):
            self.assertEqual(reached(*BOTH, most), (states[:most], False))

    def test_state_by_state(self):
        for setup in (KEPT, FULL, POOR, TWO, WIDE):
            states, are_all = reached(*setup, 700)
            self.assertEqual((len(states), len(set(states)), are_all), (700, 700, False))
            self.assertIs(type(states), tuple)
            known, at = {states[0]}, 0
            while len(known) < len(states):
                # What a state leads to, and is not there yet, comes next.
                new = plain_steps(setup, states[at]) - known
                told = set(states[len(known):len(known) + len(new)])
                self.assertTrue(told <= new)
                self.assertEqual(len(told), min(len(new), len(states) - len(known)))
                known |= told
                at += 1

    def test_most_of_a_great_world(self):
        supplies = tuple([(name, "h" + name, 2) for name in "abcdefgh"])
        deals = tuple([(name, name, tuple([(supply, 1) for supply in "abcdefgh"]), 5) for name in "abcdef"])
        states, are_all = reached(supplies, deals, tuple([(name, 5) for name in "abcdef"]), 20000)
        self.assertEqual((len(states), len(set(states)), are_all), (20000, 20000, False))

    def test_wrong_numbers(self):
        for function in (reached, first_fault, all_end):
            for most in WRONG_NUMBERS:
                self.assertRaises(BadEvent, function, *KEPT, most)
                self.assertRaises(BadEvent, function, *VOID, most)
            function(*VOID, 20000)
            function(*VOID, 1)

    def test_the_error_is_that_of_the_leftmost(self):
        for function, last in ((reached, 1), (first_fault, 1), (all_end, 1), (replayed, ())):
            for value in ODD_VALUES:
                if value != ():
                    for end in (last, None):
                        self.assertRaises(BadDeals, function, value, KEPT[1], KEPT[2], end)
                        self.assertRaises(BadDeals, function, KEPT[0], value, KEPT[2], end)
                        self.assertRaises(BadDeals, function, KEPT[0], KEPT[1], value, end)
            self.assertRaises(BadDeals, function, (), KEPT[1], KEPT[2], last)
            self.assertRaises(BadDeals, function, KEPT[0], KEPT[1], (), None)

    def test_arguments_stay_and_equal_ones_have_equal_answers(self):
        for function in (reached, first_fault, all_end):
            before = copy.deepcopy(TWO)
            self.assertEqual(function(*TWO, 50), function(*copy.deepcopy(TWO), 50))
            self.assertEqual(TWO, before)


class ReplayedTest(unittest.TestCase):

    def test_no_events(self):
        self.assertEqual(replayed(*KEPT, ()), ((), (), ((),), (), ()))
        self.assertEqual(replayed(*VOID, ()), ((), (), (), (), ()))

    def test_events_of_worlds(self):
        for seed in range(60):
            draw = random.Random(3000 + seed)
            setup = drawn_setup(draw)
            world = World(*setup)
            for _ in range(draw.randint(0, 40)):
                world.do(next_event(draw, world))
            self.assertEqual(replayed(*setup, world.log), world.state)
            world.finish()
            self.assertEqual(replayed(*setup, world.log), world.state)

    def test_events_that_cannot_be(self):
        letter = ("bank", "hold", "d", "shop")
        good = (("begin", "d"), ("tick",), ("come", letter))
        self.assertEqual(replayed(*KEPT, good)[3], (("held", "d"),))
        wrong = [good[1:], good[:1] + good[2:], good + good[:1], good + (("come", letter),), good + (("fall", "d"),),
                 good + (None,), good + ((),), good[:1] + (("return", "d"),) + good[1:], (("begin", "e"),), ("tick",),
                 (good,), (["tick"],)]
        for events in wrong:
            with self.subTest(events=events):
                self.assertRaises(BadEvent, replayed, *KEPT, events)

    def test_what_is_no_tuple_of_events(self):
        for events in [[("tick",)], [], {}, "", "tick", None, True, 0] + [value for value in ODD_VALUES if value != ()]:
            self.assertRaises(BadEvent, replayed, *KEPT, events)


class FaultTest(unittest.TestCase):

    def test_all_states_of_the_smallest_worlds(self):
        for setup in (FULL, POOR, BOTH, NO_DEALS, VOID):
            states, are_all = reached(*setup, 20000)
            self.assertIs(are_all, True)
            self.assertIsNone(first_fault(*setup, 20000))
            self.assertIs(all_end(*setup, 20000), True)
            for state in states[::37]:
                self.assertEqual(faults(*setup, state), [])
                self.assertTrue(is_sound(setup, state))

    def test_a_deal_is_given_up_or_dropped_in_them(self):
        states = reached(*FULL, 20000)[0]
        self.assertTrue(any(("drop", "d") in state[0] and not state[2][0] for state in states))
        self.assertTrue(any(state[1] and "full" == state[1][0][2] for state in states))

    def test_many_states_of_other_worlds(self):
        for setup in (KEPT, TWO, WIDE):
            self.assertIsNone(first_fault(*setup, 4000))
            self.assertIs(all_end(*setup, 4000), True)

    def test_states_behind_a_deal_that_went_and_returns(self):
        # All states from there on: the first ones that are reached do not come so far.
        world = World(*KEPT)
        world.do(("begin", "d"))
        world.finish()
        for event in [(), ("return", "d")]:
            if event:
                world.do(event)
            seen, row = {world.state}, [world.state]
            while row and len(seen) < 1500:
                row = [state for one in row for state in sorted(plain_steps(KEPT, one))]
                row = [state for state in dict.fromkeys(row) if state not in seen]
                seen |= set(row)
            for state in seen:
                self.assertEqual(faults(*KEPT, state), [])
                later = World(*KEPT)
                later.state = state
                later.finish()
                self.assertEqual(faults(*KEPT, later.state), [])
                self.assertIn(later.stage("d"), ("ended", "returned"))

    def test_small_numbers(self):
        for setup, most in itertools.product((KEPT, TWO, NO_DEALS, VOID), (1, 2, 50)):
            self.assertIsNone(first_fault(*setup, most))
            self.assertIs(all_end(*setup, most), True)

    def test_a_fault_would_be_told(self):
        # Rules that let the house answer without having it: of the states some have faults then.
        class Wrong(schedules.Rules):
            def first_answer(self, state, keeper, name):
                return ("held", "held") if keeper == "bank" else ("reserved", "reserved")

        right = schedules.Rules
        schedules.Rules = Wrong
        try:
            state = first_fault(*FULL, 20000)
            self.assertEqual(state[2], ((("reserved", "d"),),))
            self.assertEqual(faults(*FULL, state), [("below", "east", "s")])
            self.assertFalse(is_sound(FULL, state))
            self.assertIs(all_end(*FULL, 200), False)
            # None of the first two has a fault, but finishing leads to one.
            self.assertIsNone(first_fault(*FULL, 2))
            self.assertIs(all_end(*FULL, 1), True)
            self.assertIs(all_end(*FULL, 2), False)
        finally:
            schedules.Rules = right


if __name__ == "__main__":
    unittest.main()
