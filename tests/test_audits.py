"""What cannot be in a state (point 25, surehouse/audits.py)."""

import copy
import itertools
import random
import unittest

from plainworld import drawn_setup, is_sound, next_event
from samples import ODD_VALUES, replaced
from surehouse import audits
from surehouse.audits import audit, faults
from surehouse.errors import BadDeals, BadEvent
from surehouse.worlds import World

SUPPLIES = (("s", "east", 2), ("t", "west", 1), ("u", "north", 5))
DEALS = (("d", "ann", (("s", 1), ("t", 1)), 5), ("e", "bob", (("s", 2),), 0))
BUYERS = (("ann", 5), ("bob", 0))
FIRST = ((), (), ((), (), ()), (), ())

SHOP_WORDS = ("begun", "go", "drop", "ended", "return", "returned")
HOUSE_WORDS = ("reserved", "sent", "released", "back")
BANK_WORDS = ("held", "taken", "freed", "refunded")

# States in which nothing is wrong, as (shop's words, east's, west's, bank's) of the deal d.
SOUND = (
    ("", "", "", ""),
    ("begun", "", "", ""),
    ("begun", "reserved", "", "held"),
    ("begun", "reserved", "reserved", "held"),
    ("begun go", "reserved", "reserved", "held"),
    ("begun go", "reserved sent", "reserved", "held taken"),
    ("begun go ended", "reserved sent", "reserved sent", "held taken"),
    ("begun go ended return", "reserved sent", "reserved sent back", "held taken refunded"),
    ("begun go ended return returned", "reserved sent back", "reserved sent back", "held taken refunded"),
    ("begun drop", "", "", ""),
    ("begun drop", "reserved", "released", "held"),
    ("begun drop", "reserved released", "released", "freed"),
    ("begun drop ended", "reserved released", "released", "held freed"),
    # What is not asked.
    ("", "reserved", "reserved", "held"),
)


def logged(words, name="d"):
    return tuple([(word, name) for word in words.split()])


def state_of(shop, east, west, bank, name="d"):
    return (logged(shop, name), (), (logged(east, name), logged(west, name), ()), logged(bank, name), ())


def found_in(state):
    return faults(SUPPLIES, DEALS, BUYERS, state)


class FaultsTest(unittest.TestCase):

    def sound(self, *words):
        state = state_of(*words)
        self.assertEqual(found_in(state), [], words)
        self.assertTrue(is_sound((SUPPLIES, DEALS, BUYERS), state))

    def faulty(self, *words):
        self.has_faults(state_of(*words))

    def has_faults(self, state, setup=(SUPPLIES, DEALS, BUYERS)):
        found = faults(*setup, state)
        self.assertIs(type(found), list)
        self.assertTrue(found, state)
        for row in found:
            self.assertEqual([type(value) for value in row], [str, str, str])
            self.assertIs(type(row), tuple)
        self.assertFalse(is_sound(setup, state), state)
        return found

    def test_defined_in_their_file(self):
        for function in (faults, audit):
            self.assertEqual(function.__module__, audits.__name__)

    def test_nothing_is_wrong(self):
        self.assertEqual(found_in(FIRST), [])
        self.assertEqual(faults((), (), (), ((), (), (), (), ())), [])
        for words in SOUND:
            self.sound(*words)

    def test_things_below_0(self):
        # Both take from s: three of two. There is enough if one has released it, not if it is back.
        for words, is_good in (("", True), ("reserved", False), ("reserved released", True)):
            shop = logged("begun drop") if "released" in words else logged("begun")
            state = (shop + logged("begun", "e"), (), (logged(words) + logged("reserved", "e"), (), ()), (), ())
            if is_good:
                self.assertEqual(found_in(state), [])
            else:
                self.assertEqual(self.has_faults(state)[0][1:], ("east", "s"))
        shop = logged("begun go ended return returned") + logged("begun", "e")
        sent = logged("reserved sent back")
        state = (shop, (), (sent + logged("reserved", "e"), sent, ()), logged("held taken refunded"), ())
        self.has_faults(state)
        self.assertEqual(found_in(replaced(state, 2, (sent, sent, ()))), [])

    def test_coins_below_0(self):
        deals = (DEALS[0], ("e", "ann", (("u", 1),), 1))
        for words, is_good in (("", True), ("held", False), ("held taken", False), ("held taken refunded", True),
                               ("held freed", True)):
            shop = {"held taken": "begun go", "held taken refunded": "begun go ended return",
                    "held freed": "begun drop"}.get(words, "begun")
            log = "reserved sent" if "go" in shop else ""
            state = (logged(shop) + logged("begun", "e"), (), (logged(log), logged(log), ()),
                     logged(words) + logged("held", "e"), ())
            if is_good:
                self.assertEqual(faults(SUPPLIES, deals, BUYERS, state), [])
            else:
                self.assertEqual(self.has_faults(state, (SUPPLIES, deals, BUYERS))[0][1:], ("bank", "ann"))

    def test_orders_of_the_shops_words(self):
        good = [(), ("begun",), ("begun", "go"), ("begun", "go", "ended"), ("begun", "go", "ended", "return"),
                ("begun", "go", "ended", "return", "returned"), ("begun", "drop"), ("begun", "drop", "ended")]
        for many in range(5):
            for words in itertools.product(SHOP_WORDS, repeat=many):
                # Houses and bank that have just what these words ask, if it can be.
                log = "reserved sent back" if "return" in words else "reserved sent" if "go" in words else "released"
                log = "" if "go" not in words and "drop" not in words and "return" not in words else log
                bank = log.replace("reserved", "held").replace("sent", "taken").replace("back", "refunded")
                bank = bank.replace("released", "freed")
                if words in good:
                    self.sound(" ".join(words), log, log, bank)
                else:
                    self.faulty(" ".join(words), log, log, bank)

    def test_orders_of_a_houses_words_and_of_the_banks(self):
        good = [(), ("reserved",), ("released",), ("reserved", "released"), ("reserved", "sent"),
                ("reserved", "sent", "back")]
        to_bank = {"reserved": "held", "sent": "taken", "released": "freed", "back": "refunded"}
        for many in range(5):
            for words in itertools.product(HOUSE_WORDS, repeat=many):
                if "back" in words:
                    shop, log, bank = "begun go ended return", "reserved sent", "held taken"
                elif "sent" in words:
                    shop, log, bank = "begun go", "reserved", "held"
                else:
                    shop, log, bank = "begun drop" if "released" in words else "begun", "", ""
                taken = " ".join([to_bank[word] for word in words])
                states = [(shop, " ".join(words), log, bank), (shop, log, " ".join(words), bank),
                          (shop, log, log, taken)]
                for state in states:
                    if words in good:
                        self.sound(*state)
                    else:
                        self.faulty(*state)

    def test_words_of_other_deals_stand_between(self):
        shop = (("begun", "e"), ("begun", "d"), ("drop", "e"), ("drop", "d"), ("ended", "d"))
        east = (("reserved", "e"), ("released", "d"), ("released", "e"))
        state = (shop, (), (east, logged("released"), ()), (("freed", "d"), ("held", "e"), ("freed", "e")), ())
        self.assertEqual(found_in(state), [])
        self.has_faults(replaced(state, 0, shop + (("ended", "d"),)))
        self.has_faults(replaced(state, 3, (("freed", "d"), ("freed", "e"), ("held", "e"))))

    def test_words_at_a_house_that_has_no_part(self):
        good = state_of("begun drop", "", "", "")
        for word in HOUSE_WORDS:
            self.has_faults(replaced(good, 2, ((), (), logged(word))))
        self.has_faults(((("begun", "e"),), (), ((), logged("reserved", "e"), ()), (), ()))
        self.has_faults(((("begun", "e"), ("drop", "e")), (), ((), logged("released", "e"), ()), (), ()))

    def test_sent_or_taken_without_go(self):
        for shop in ("", "begun", "begun drop"):
            self.sound(shop, "reserved", "", "held")
            self.faulty(shop, "reserved sent", "", "held")
            self.faulty(shop, "", "reserved sent", "held")
            self.faulty(shop, "reserved", "", "held taken")
        self.sound("begun go", "reserved sent", "reserved", "held taken")

    def test_released_or_freed_without_drop(self):
        for shop in ("", "begun"):
            self.faulty(shop, "reserved released", "", "")
            self.faulty(shop, "released", "", "")
            self.faulty(shop, "", "", "held freed")
            self.faulty(shop, "", "", "freed")
        for words in (("reserved released", "reserved", "held"), ("reserved", "reserved released", "held"),
                      ("reserved", "reserved", "held freed")):
            self.faulty("begun go", *words)
            self.sound("begun drop", *words)

    def test_back_or_refunded_without_return(self):
        for shop in ("begun go", "begun go ended"):
            self.sound(shop, "reserved sent", "reserved sent", "held taken")
            self.faulty(shop, "reserved sent back", "reserved sent", "held taken")
            self.faulty(shop, "reserved sent", "reserved sent back", "held taken")
            self.faulty(shop, "reserved sent", "reserved sent", "held taken refunded")

    def test_go_without_all_reserved_or_without_held(self):
        self.sound("begun go", "reserved", "reserved", "held")
        for words in (("", "reserved", "held"), ("reserved", "", "held"), ("reserved", "reserved", "")):
            self.faulty("begun go", *words)
            self.sound("begun", *words)

    def test_ended_and_go_without_all_sent_and_taken(self):
        self.sound("begun go ended", "reserved sent", "reserved sent", "held taken")
        for words in (("reserved", "reserved sent", "held taken"), ("reserved sent", "reserved", "held taken"),
                      ("reserved sent", "reserved sent", "held")):
            self.faulty("begun go ended", *words)
            self.faulty("begun go ended return", *words)
            self.sound("begun go", *words)

    def test_ended_and_drop_without_all_released_and_freed(self):
        self.sound("begun drop ended", "released", "reserved released", "freed")
        for words in (("reserved", "released", "freed"), ("", "released", "freed"), ("released", "reserved", "freed"),
                      ("released", "", "freed"), ("released", "released", "held"), ("released", "released", "")):
            self.faulty("begun drop ended", *words)
            self.sound("begun drop", *words)

    def test_returned_without_all_back_and_refunded(self):
        self.sound("begun go ended return returned", "reserved sent back", "reserved sent back", "held taken refunded")
        for words in (("reserved sent", "reserved sent back", "held taken refunded"),
                      ("reserved sent back", "reserved sent", "held taken refunded"),
                      ("reserved sent back", "reserved sent back", "held taken")):
            self.faulty("begun go ended return returned", *words)
            self.sound("begun go ended return", *words)

    def test_heard_and_letters_are_not_asked(self):
        odd = (("d", "east", "sent"), ("d", "east", "sent"), (), None, "x", 5, [1], {"a": []}, ("e",))
        for words in SOUND:
            state = state_of(*words)
            for place in (1, 4):
                self.assertEqual(found_in(replaced(state, place, odd)), [])
        self.has_faults(replaced(state_of("go", "", "", ""), 1, odd))

    def test_all_states_of_one_small_deal(self):
        supplies, deals, buyers = (("s", "east", 1),), (("d", "ann", (("s", 1),), 5),), (("ann", 5),)
        shops = [words for many in range(4) for words in itertools.permutations(SHOP_WORDS, many)]
        shops += [("begun", "go", "ended", "return", word) for word in SHOP_WORDS] + [("begun", "go", "ended", "return")]
        houses = [words for many in range(3) for words in itertools.permutations(HOUSE_WORDS, many)]
        banks = [words for many in range(3) for words in itertools.permutations(BANK_WORDS, many)]
        houses, banks = houses + [("reserved", "sent", "back")], banks + [("held", "taken", "refunded")]
        sound = 0
        for shop, house, bank in itertools.product(shops, houses, banks):
            state = (logged(" ".join(shop)), (), (logged(" ".join(house)),), logged(" ".join(bank)), ())
            good = is_sound((supplies, deals, buyers), state)
            self.assertIs(faults(supplies, deals, buyers, state) == [], good, state)
            sound += good
        self.assertEqual(sound, 4 + 4 + 4 + 1 + 4 + 1 + 16 + 4)


class FormTest(unittest.TestCase):

    def bad(self, state):
        with self.subTest(state=state):
            self.assertRaises(BadEvent, faults, SUPPLIES, DEALS, BUYERS, state)

    def test_states_of_other_forms(self):
        for state in (FIRST[:4], FIRST + ((),), list(FIRST), (FIRST,), ()) + ODD_VALUES:
            self.bad(state)
        for place in (0, 1, 3, 4):
            for value in (None, True, 0, "", "d", [], {}, [("begun", "d")]):
                self.bad(replaced(FIRST, place, value))
        for value in (None, True, 0, "", (), ((), ()), ((), (), (), ()), [(), (), ()], ((), (), []), ((), (), None),
                      ((), (), "")):
            self.bad(replaced(FIRST, 2, value))
        self.assertRaises(BadEvent, faults, (), (), (), FIRST)

    def test_words_of_other_logs_and_names_of_no_deal(self):
        for words, others, place in ((SHOP_WORDS, HOUSE_WORDS + BANK_WORDS, 0), (HOUSE_WORDS, SHOP_WORDS + BANK_WORDS, 2),
                                     (BANK_WORDS, SHOP_WORDS + HOUSE_WORDS, 3)):
            answers = ("full", "poor", "restocked", "reserve", "hold", "", "Begun", None, 0, True, (), [], {})
            for word in others + answers:
                self.bad(self.with_log(place, ((word, "d"),)))
            for name in ("f", "", "east", "ann", "s", None, True, 0, (), ["d"], {}):
                self.bad(self.with_log(place, ((words[0], "d"), (words[0], name))))
            for row in ((words[0],), (words[0], "d", "d"), [words[0], "d"], words[0], None, ("d", words[0]), 5):
                self.bad(self.with_log(place, (row,)))
                self.bad(self.with_log(place, ((words[0], "d"), row)))
            for word in words:
                self.assertIs(type(found_in(self.with_log(place, ((word, "d"), (word, "e"))))), list)

    def with_log(self, place, log):
        if place == 2:
            return replaced(FIRST, 2, ((), log, ()))
        return replaced(FIRST, place, log)

    def test_wrong_worlds_ahead_of_wrong_states(self):
        for value in ODD_VALUES:
            if value != ():
                for state in (FIRST, None):
                    self.assertRaises(BadDeals, faults, value, DEALS, BUYERS, state)
                    self.assertRaises(BadDeals, faults, SUPPLIES, value, BUYERS, state)
                    self.assertRaises(BadDeals, faults, SUPPLIES, DEALS, value, state)
        self.assertRaises(BadDeals, faults, SUPPLIES[1:], DEALS, BUYERS, FIRST)
        self.assertRaises(BadDeals, faults, SUPPLIES, DEALS, BUYERS[1:], FIRST)

    def test_an_audit_asks_for_a_world(self):
        for value in ODD_VALUES + (FIRST, (SUPPLIES, DEALS, BUYERS)):
            self.assertRaises(BadDeals, audit, value)


class AuditTest(unittest.TestCase):

    def test_worlds_have_no_faults(self):
        for seed in range(120):
            draw = random.Random(1000 + seed)
            setup = drawn_setup(draw)
            world = World(*setup)
            for _ in range(draw.randint(0, 50)):
                world.do(next_event(draw, world))
                self.assertEqual(audit(world), [])
                self.assertEqual(faults(*setup, world.state), [])
            world.finish()
            self.assertEqual(audit(world), [])

    def test_bent_states_of_worlds(self):
        bent = 0
        for seed in range(200):
            draw = random.Random(2000 + seed)
            setup = drawn_setup(draw)
            world = World(*setup)
            for _ in range(draw.randint(5, 60)):
                world.do(next_event(draw, world))
            for _ in range(20):
                state = self.bent(draw, setup, world.state)
                good = is_sound(setup, state)
                self.assertIs(faults(*setup, state) == [], good, (setup, state))
                bent += not good
        self.assertGreater(bent, 1000)

    def bent(self, draw, setup, state):
        """The state with one word more or less, or another one, in one of its logs."""
        place = draw.choice((0, 2, 2, 3))
        at = draw.randrange(len(state[2]))
        log = state[2][at] if place == 2 else state[place]
        word = (draw.choice({0: SHOP_WORDS, 2: HOUSE_WORDS, 3: BANK_WORDS}[place]), draw.choice(setup[1])[0])
        where = draw.randint(0, len(log))
        log = draw.choice((log[:where] + (word,) + log[where:], log[:where] + log[where + 1:],
                           log[:where] + (word,) + log[where + 1:]))
        return replaced(state, place, replaced(state[2], at, log) if place == 2 else log)

    def test_a_bent_world_is_found(self):
        world = World(SUPPLIES, DEALS, BUYERS)
        world.do(("begin", "d"))
        world.finish()
        before = copy.deepcopy(world.state)
        self.assertEqual(audit(world), [])
        self.assertEqual(world.state, before)
        world.state = replaced(world.state, 3, ())
        self.assertEqual(sorted(audit(world)), [("held", "bank", "d"), ("taken", "bank", "d")])

    def test_told_lists_are_new(self):
        state = state_of("go", "", "", "")
        found = found_in(state)
        before = list(found)
        found.clear()
        self.assertEqual(found_in(state), before)


if __name__ == "__main__":
    unittest.main()
