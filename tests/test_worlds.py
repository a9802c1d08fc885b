"""Deals, letters and machines that fall (points 20 to 22, surehouse/worlds.py)."""

import copy
import random
import unittest

from plainworld import PlainWorld, drawn_setup, next_event
from samples import ODD_VALUES, letters, replaced
from surehouse import worlds
from surehouse.errors import BadDeals, BadEvent
from surehouse.worlds import World

SUPPLIES = (("s", "east", 2), ("t", "west", 1), ("u", "east", 1))
DEALS = (("d", "ann", (("s", 1), ("t", 1)), 5), ("e", "ann", (("s", 2),), 5), ("f", "bob", (("u", 1), ("s", 1)), 0))
BUYERS = (("ann", 9), ("bob", 0))
FIRST = ((), (), ((), ()), (), ())

HOUSE_WORDS = ("reserve", "send", "release", "restock")
BANK_WORDS = ("hold", "take", "free", "refund")

# Point 21 for a house: by what it reads, then by its last word: its answer, "+" where it writes a word, too.
HOUSE_READS = {
    "reserve": {"": "reserved+reserved", "reserved": "reserved", "sent": "reserved", "back": "reserved",
                "released": "released"},
    "send": {"": None, "reserved": "sent+sent", "sent": "sent", "back": "sent", "released": None},
    "release": {"": "released+released", "reserved": "released+released", "sent": None, "back": None,
                "released": "released"},
    "restock": {"": None, "reserved": None, "sent": "restocked+back", "back": "restocked", "released": None},
}
BANK_READS = {
    "hold": {"": "held+held", "held": "held", "taken": "held", "refunded": "held", "freed": "freed"},
    "take": {"": None, "held": "taken+taken", "taken": "taken", "refunded": "taken", "freed": None},
    "free": {"": "freed+freed", "held": "freed+freed", "taken": None, "refunded": None, "freed": "freed"},
    "refund": {"": None, "held": None, "taken": "refunded+refunded", "refunded": "refunded", "freed": None},
}
# The words that stand in a log ahead of a last word.
BEHIND = {"": (), "reserved": ("reserved",), "sent": ("reserved", "sent"), "back": ("reserved", "sent", "back"),
          "released": ("released",), "held": ("held",), "taken": ("held", "taken"), "freed": ("freed",),
          "refunded": ("held", "taken", "refunded")}


def logged(*words, name="d"):
    """A log of these words of a deal."""
    return tuple([(word, name) for word in words])


def world(supplies=SUPPLIES, deals=DEALS, buyers=BUYERS):
    return World(supplies, deals, buyers)


class NewWorldTest(unittest.TestCase):

    def test_defined_in_its_file(self):
        self.assertEqual(World.__module__, worlds.__name__)
        for name in ("do", "can", "stage", "things", "coins", "finish", "log", "letters"):
            self.assertIn(name, vars(World))

    def test_example(self):
        found = World((("s", "east", 2),), (("d", "ann", (("s", 1),), 5),), (("ann", 9),))
        self.assertIsNone(found.do(("begin", "d")))
        self.assertIsNone(found.do(("tick",)))
        self.assertEqual([found.letters, found.finish(), found.stage("d"), found.things(), found.coins()],
                         [(("bank", "hold", "d", "shop"), ("east", "reserve", "d", "shop")), 9, "ended",
                          (("s", 1, 0, 1, 0),), (("ann", 4, 0, 5),)])
        self.assertEqual(len(found.log), 11)

    def test_at_first(self):
        found = world()
        self.assertEqual(vars(found)["setup"], (SUPPLIES, DEALS, BUYERS))
        self.assertEqual(vars(found)["state"], FIRST)
        self.assertEqual((found.log, found.letters), ((), ()))
        self.assertEqual([found.stage(name) for name in "def"], ["", "", ""])
        self.assertEqual(found.things(), (("s", 2, 0, 0, 0), ("t", 1, 0, 0, 0), ("u", 1, 0, 0, 0)))
        self.assertEqual(found.coins(), (("ann", 9, 0, 0), ("bob", 0, 0, 0)))
        self.assertEqual(found.finish(), 0)

    def test_houses_are_those_of_the_supplies_in_order(self):
        self.assertEqual(World((), (), ()).state, ((), (), (), (), ()))
        rows = (("a", "west", 1), ("b", "east", 1), ("c", "west", 1), ("d", "abc", 1))
        found = World(rows, (("d", "ann", (("b", 1),), 0),), (("ann", 0),))
        found.do(("begin", "d"))
        found.finish()
        self.assertEqual(found.state[2], ((), (("reserved", "d"), ("sent", "d")), ()))

    def test_worlds_at_their_limits(self):
        rows = tuple([(name, "h" + name, 99) for name in letters(8)])
        people = tuple([(name, 10 ** 9) for name in letters(6)])
        deals = tuple([(name, name, tuple([(supply, 99) for supply in letters(8)]), 10 ** 9) for name in letters(6)])
        found = World(rows, deals, people)
        found.do(("begin", "a"))
        found.do(("begin", "b"))
        found.finish()
        self.assertEqual({found.things()[place] for place in range(8)},
                         {(name, 0, 0, 99, 0) for name in letters(8)})
        self.assertEqual(found.coins()[:2], (("a", 0, 0, 10 ** 9), ("b", 10 ** 9, 0, 0)))
        self.assertTrue(World((("s", "east", 0),), (("d", "a", (("s", 1),), 0),), (("a", 0),)))
        self.assertTrue(World((("shop", "house", 0),), (("bank", "shop", (("shop", 1),), 0),), (("shop", 0),)))

    def test_wrong_supplies(self):
        row = SUPPLIES[0]
        wrong = [tuple([(name, "east", 1) for name in letters(9)]), list(SUPPLIES), SUPPLIES + (row,), row,
                 SUPPLIES + (("s", "west", 0),), (list(row),), (row[:2],), (row + (1,),)]
        for place, values in ((0, ("", "S", "s23456789", None, 5)), (1, ("shop", "bank", "", "East", None, 5)),
                              (2, (-1, 100, True, False, None, "1"))):
            wrong += [(replaced(row, place, value),) + SUPPLIES[1:] for value in values]
        for supplies in wrong + [value for value in ODD_VALUES if value != ()]:
            with self.subTest(supplies=supplies):
                self.assertRaises(BadDeals, World, supplies, (), BUYERS)

    def test_wrong_buyers(self):
        wrong = [tuple([(name, 1) for name in letters(7)]), list(BUYERS), BUYERS + BUYERS[:1], BUYERS[0],
                 (("ann", 1), ("ann", 2)), (["ann", 1],), (("ann",),), (("ann", 1, 1),), (("", 1),), (("Ann", 1),),
                 ((None, 1),), (("ann", -1),), (("ann", 10 ** 9 + 1),), (("ann", True),), (("ann", None),),
                 (("ann", "1"),)]
        for buyers in wrong + [value for value in ODD_VALUES if value != ()]:
            with self.subTest(buyers=buyers):
                self.assertRaises(BadDeals, World, SUPPLIES, (), buyers)

    def test_wrong_deals(self):
        row = DEALS[0]
        wrong = [tuple([replaced(row, 0, name) for name in letters(7)]), list(DEALS), DEALS + DEALS[:1], row,
                 (row, replaced(DEALS[1], 0, "d")), (list(row),), (row[:3],), (row + (1,),)]
        parts = [(), (("s", 1), ("s", 1)), (("s", 1), ("s", 2)), (("no", 1),), (("s", 0),), (("s", 100),), (("s", -1),),
                 (("s", True),), (("s", None),), (("s",),), (("s", 1, 1),), (["s", 1],), [("s", 1)], ("s", 1),
                 (("east", 1),), ((None, 1),), ((["s"], 1),)]
        for place, values in ((0, ("", "D", "d23456789", None, 5)), (1, ("cid", "", None, 0, ["ann"], "s")),
                              (2, tuple(parts) + ODD_VALUES), (3, (-1, 10 ** 9 + 1, True, False, None, "1"))):
            wrong += [(replaced(row, place, value),) for value in values]
        for deals in wrong + [value for value in ODD_VALUES if value != ()]:
            with self.subTest(deals=deals):
                self.assertRaises(BadDeals, World, SUPPLIES, deals, BUYERS)
        self.assertRaises(BadDeals, World, SUPPLIES, DEALS, BUYERS[:1])
        self.assertRaises(BadDeals, World, SUPPLIES[:2], DEALS, BUYERS)
        supplies = tuple([(name, "east", 9) for name in letters(8)])
        nine = tuple([(name, 1) for name in letters(8)]) + (("a", 1),)
        self.assertRaises(BadDeals, World, supplies, (("d", "ann", nine, 1),), BUYERS)

    def test_a_stage_of_no_deal(self):
        found = world()
        for name in ("g", "", "east", "ann", "s", None, True, 0, (), ["d"], {"d": 1}, ("d",)):
            self.assertRaises(BadDeals, found.stage, name)


class RulesTest(unittest.TestCase):

    def at(self, state, supplies=SUPPLIES, deals=DEALS, buyers=BUYERS):
        """The world in this state."""
        found = World(supplies, deals, buyers)
        found.state = state
        return found

    def test_begin(self):
        found = world()
        found.do(("begin", "e"))
        self.assertEqual(found.state, ((("begun", "e"),), (), ((), ()), (), ()))
        self.assertRaises(BadEvent, found.do, ("begin", "e"))
        found.do(("begin", "d"))
        self.assertEqual(found.state[0], (("begun", "e"), ("begun", "d")))
        self.assertEqual([found.stage(name) for name in "def"], ["begun", "begun", ""])

    def test_which_turns_can_be_at_each_stage(self):
        ways = {(): "begin", ("begun",): "give up", ("begun", "go"): None, ("begun", "go", "ended"): "return",
                ("begun", "go", "ended", "return"): None, ("begun", "go", "ended", "return", "returned"): None,
                ("begun", "drop"): None, ("begun", "drop", "ended"): None}
        written = {"begin": "begun", "give up": "drop", "return": "return"}
        for words, turn in ways.items():
            state = (logged(*words) + logged("begun", "go", "ended", name="e"), (), ((), ()), (), ())
            for one in ("begin", "give up", "return"):
                found = self.at(state)
                if one == turn:
                    found.do((one, "d"))
                    self.assertEqual(found.state, (state[0] + logged(written[one]),) + state[1:])
                else:
                    self.assertNotIn((one, "d"), found.can())
                    self.assertRaises(BadEvent, found.do, (one, "d"))

    def test_ticks_ask_what_the_stage_asks(self):
        ways = {(): (), ("begun",): ("reserve", "hold"), ("begun", "go"): ("send", "take"), ("begun", "go", "ended"): (),
                ("begun", "go", "ended", "return"): ("restock", "refund"), ("begun", "drop"): ("release", "free"),
                ("begun", "drop", "ended"): (), ("begun", "go", "ended", "return", "returned"): ()}
        for words, asked in ways.items():
            found = self.at((logged(*words), (), ((), ()), (), ()))
            due = () if asked == () else (("bank", asked[1], "d", "shop"), ("east", asked[0], "d", "shop"),
                                          ("west", asked[0], "d", "shop"))
            for _ in range(2):
                found.do(("tick",))
                self.assertEqual(found.state, (logged(*words), (), ((), ()), (), due))

    def test_ticks_do_not_ask_what_the_shop_has_heard(self):
        answers = {"begun": ("reserved", "held"), "go": ("sent", "taken"), "drop": ("released", "freed"),
                   "return": ("restocked", "refunded")}
        asked = {"begun": ("reserve", "hold"), "go": ("send", "take"), "drop": ("release", "free"),
                 "return": ("restock", "refund")}
        for stage, (of_house, of_bank) in answers.items():
            for heard, names in (((("d", "east", of_house),), ("bank", "west")),
                                 ((("d", "bank", of_bank), ("d", "west", of_house)), ("east",)),
                                 ((("d", "west", "full"), ("e", "east", of_house), ("e", "west", of_house)),
                                  ("bank", "east", "west"))):
                found = self.at((logged(stage), heard, ((), ()), (), ()))
                found.do(("tick",))
                self.assertEqual(found.letters, tuple([(name, asked[stage][name == "bank"], "d", "shop")
                                                       for name in names]))

    def test_ticks_ask_only_the_houses_of_the_deal(self):
        found = world()
        for name in "ef":
            found.do(("begin", name))
        found.do(("tick",))
        self.assertEqual(found.letters, (("bank", "hold", "e", "shop"), ("bank", "hold", "f", "shop"),
                                         ("east", "reserve", "e", "shop"), ("east", "reserve", "f", "shop")))

    def test_letters_come_double_and_are_lost(self):
        letter = ("east", "release", "d", "shop")
        other = ("west", "release", "d", "shop")
        answer = ("shop", "released", "d", "east")
        state = (logged("begun", "drop"), (), ((), ()), (), (letter, other))
        log = logged("released")
        for word, behind in (("come", (log, (answer, other))), ("double", (log, (letter, answer, other))),
                             ("lose", ((), (other,)))):
            found = self.at(state)
            found.do((word, letter))
            self.assertEqual(found.state, (state[0], (), (behind[0], ()), (), behind[1]))
            self.assertEqual(found.letters, behind[1])
            self.assertEqual(found.log, ((word, letter),))

    def test_letters_are_under_way_once(self):
        letter = ("east", "release", "d", "shop")
        found = self.at((logged("begun", "drop"), (), ((), ()), (), (letter,)))
        for _ in range(3):
            found.do(("double", letter))
            self.assertEqual(found.letters, (letter, ("shop", "released", "d", "east")))
            self.assertEqual(found.state[2], (logged("released"), ()))

    def test_falls(self):
        under_way = (("bank", "hold", "d", "shop"), ("east", "reserve", "d", "shop"), ("shop", "full", "e", "east"),
                     ("shop", "reserved", "d", "west"), ("west", "reserve", "d", "shop"))
        heard = (("d", "bank", "held"),)
        state = (logged("begun"), heard, ((), logged("reserved")), logged("held"), under_way)
        for who in ("shop", "bank", "east", "west"):
            found = self.at(state)
            found.do(("fall", who))
            self.assertEqual(found.state, (state[0], () if who == "shop" else heard, state[2], state[3],
                                           tuple([letter for letter in under_way if letter[0] != who])))

    def reads(self, who, word, last, reads):
        """A house or the bank, with this last word, reads a word and answers as the table says."""
        place = 3 if who == "bank" else 2
        log = logged("reserved", name="f")[:place - 2] + logged(*BEHIND[last])
        pieces = [logged("begun"), (("d", "west", "full"),), (log, ()) if place == 2 else ((), ()), (), ()]
        if place == 3:
            pieces[3] = log
        letter = (who, word, "d", "shop")
        pieces[4] = (letter,)
        found = self.at(tuple(pieces))
        found.do(("come", letter))
        answer, _, written = (reads[word][last] or "").partition("+")
        log = log + (logged(written) if written else ())
        pieces[4] = (("shop", answer, "d", who),) if answer else ()
        pieces[place] = log if place == 3 else (log, ())
        self.assertEqual(found.state, tuple(pieces), (who, word, last))

    def test_what_houses_and_bank_read_by_their_last_word(self):
        for word in HOUSE_WORDS:
            for last in HOUSE_READS[word]:
                self.reads("east", word, last, HOUSE_READS)
        for word in BANK_WORDS:
            for last in BANK_READS[word]:
                self.reads("bank", word, last, BANK_READS)

    def test_every_word_again_and_again_in_every_order(self):
        for who, words, reads, place in (("east", HOUSE_WORDS, HOUSE_READS, 2), ("bank", BANK_WORDS, BANK_READS, 3)):
            for seed in range(60):
                draw = random.Random(seed)
                found, last = self.at((logged("begun"), (), ((), ()), (), ())), ""
                for _ in range(12):
                    word = draw.choice(words)
                    found.state = found.state[:4] + (((who, word, "d", "shop"),),)
                    before = found.state[place]
                    found.do(("come", (who, word, "d", "shop")))
                    answer, _, written = (reads[word][last] or "").partition("+")
                    self.assertEqual(found.letters, (("shop", answer, "d", who),) if answer else ())
                    log = logged(written) if written else ()
                    self.assertEqual(found.state[place], before + log if place == 3 else (before[0] + log, ()))
                    last = written or last

    def test_a_full_house(self):
        letter = ("east", "reserve", "d", "shop")
        # d asks one of s, e two, f one of s and one of u: there are two of s and one of u.
        for logs, answer in (((), "reserved"), (logged("reserved", name="e"), "full"),
                             (logged("reserved", "sent", name="e"), "full"),
                             (logged("reserved", "sent", "back", name="e"), "full"),
                             (logged("reserved", "released", name="e"), "reserved"),
                             (logged("released", name="e"), "reserved"), (logged("reserved", name="f"), "reserved")):
            found = self.at((logged("begun"), (), (logs, ()), (), (letter,)))
            found.do(("come", letter))
            written = logged("reserved") if answer == "reserved" else ()
            self.assertEqual(found.state, (logged("begun"), (), (logs + written, ()), (),
                                           (("shop", answer, "d", "east"),)))

    def test_a_house_is_full_if_one_part_is_too_much(self):
        letter = ("east", "reserve", "f", "shop")
        for counts, answer in (((1, 1), "reserved"), ((0, 1), "full"), ((1, 0), "full"), ((0, 0), "full")):
            supplies = (("s", "east", counts[0]), ("t", "west", 0), ("u", "east", counts[1]))
            found = self.at((logged("begun", name="f"), (), ((), ()), (), (letter,)), supplies)
            found.do(("double", letter))
            self.assertIn(("shop", answer, "f", "east"), found.letters)

    def test_a_full_house_has_room_later(self):
        letter = ("east", "reserve", "d", "shop")
        found = self.at((logged("begun"), (), (logged("reserved", name="e"), ()), (),
                         (("east", "release", "e", "shop"), letter)))
        found.do(("double", letter))
        found.do(("come", ("east", "release", "e", "shop")))
        found.do(("double", letter))
        self.assertEqual(found.state[2][0], logged("reserved", "released", name="e") + logged("reserved"))
        self.assertEqual(found.letters, (letter, ("shop", "full", "d", "east"), ("shop", "released", "e", "east"),
                                         ("shop", "reserved", "d", "east")))

    def test_a_poor_buyer(self):
        letter = ("bank", "hold", "d", "shop")
        for log, answer in (((), "held"), (logged("held", name="e"), "poor"), (logged("held", "taken", name="e"), "poor"),
                            (logged("held", "taken", "refunded", name="e"), "held"), (logged("freed", name="e"), "held"),
                            (logged("held", "freed", name="e"), "held"), (logged("held", name="f"), "held")):
            found = self.at((logged("begun"), (), ((), ()), log, (letter,)))
            found.do(("come", letter))
            written = logged("held") if answer == "held" else ()
            self.assertEqual(found.state, (logged("begun"), (), ((), ()), log + written, (("shop", answer, "d", "bank"),)))
        for cents, answer in ((4, "poor"), (5, "held")):
            found = self.at((logged("begun"), (), ((), ()), (), (letter,)), buyers=(("ann", cents), ("bob", 9)))
            found.do(("come", letter))
            self.assertEqual(found.letters, (("shop", answer, "d", "bank"),))

    def hears(self, words, heard, letter, more, remembered=True):
        """The shop, with these words in its log and this heard, reads an answer and writes so much more."""
        state = (logged(*words), tuple(sorted(heard)), ((), ()), (), (letter,))
        found = self.at(state)
        found.do(("come", letter))
        told = (letter[2], letter[3], letter[1])
        behind = tuple(sorted(set(heard) | {told})) if remembered else tuple(sorted(heard))
        self.assertEqual(found.state, (logged(*words) + logged(*more), behind, ((), ()), (), ()))

    def test_the_shop_hears_nothing_of_a_deal_that_has_not_begun(self):
        for word in ("reserved", "full", "released", "sent"):
            self.hears((), (), ("shop", word, "d", "east"), (), remembered=False)

    def test_the_shop_hears_all_that_its_stage_asks(self):
        ways = ((("begun",), "reserved", "held", "go"), (("begun", "go"), "sent", "taken", "ended"),
                (("begun", "drop"), "released", "freed", "ended"),
                (("begun", "go", "ended", "return"), "restocked", "refunded", "returned"))
        for words, of_house, of_bank, more in ways:
            told = [("d", "bank", of_bank), ("d", "east", of_house), ("d", "west", of_house)]
            for place in range(3):
                rest = told[:place] + told[place + 1:]
                name, who, word = told[place]
                self.hears(words, rest, ("shop", word, name, who), (more,))
                self.hears(words, rest[:1], ("shop", word, name, who), ())
                self.hears(words, rest[1:], ("shop", word, name, who), ())
                # What another deal's houses say does not count.
                self.hears(words, rest[:1] + [("e",) + rest[1][1:]], ("shop", word, name, who), ())
                # The same once more.
                self.hears(words, rest[:1] + told[place:place + 1], ("shop", word, name, who), ())

    def test_the_shop_drops_a_deal_that_cannot_be(self):
        for word, who in (("full", "east"), ("full", "west"), ("poor", "bank"), ("released", "east"), ("freed", "bank")):
            self.hears(("begun",), (), ("shop", word, "d", who), ("drop",))
            self.hears(("begun",), (("d", "east", "reserved"), ("d", "west", "reserved"), ("d", "bank", "held")),
                       ("shop", word, "d", who), ("drop",))
            # It remembers it already: any answer makes it drop then.
            self.hears(("begun",), (("d", who, word),), ("shop", "reserved", "d", "east"), ("drop",))
            # Not for another deal.
            self.hears(("begun",), (("e", who, word),), ("shop", "reserved", "d", "east"), ())
            for words in (("begun", "go"), ("begun", "drop"), ("begun", "go", "ended"), ("begun", "drop", "ended"),
                          ("begun", "go", "ended", "return")):
                self.hears(words, (), ("shop", word, "d", who), ())

    def test_late_answers_are_remembered_at_each_stage(self):
        for words in (("begun", "go"), ("begun", "go", "ended"), ("begun", "drop", "ended"), ("begun", "drop"),
                      ("begun", "go", "ended", "return", "returned")):
            self.hears(words, (("d", "bank", "held"), ("d", "west", "reserved")), ("shop", "reserved", "d", "east"), ())

    def test_one_word_for_a_letter(self):
        # All of go is heard ahead, and still the letter that brings go brings nothing more.
        told = (("d", "bank", "held"), ("d", "bank", "taken"), ("d", "east", "sent"), ("d", "west", "reserved"),
                ("d", "west", "sent"))
        self.hears(("begun",), told, ("shop", "reserved", "d", "east"), ("go",))
        self.hears(("begun", "go"), told, ("shop", "reserved", "d", "east"), ("ended",))

    def test_things_and_coins(self):
        state = (logged("begun"), (), (logged("reserved") + logged("reserved", name="f"), logged("reserved", "sent")),
                 logged("held") + logged("held", "taken", name="f"), ())
        found = self.at(state)
        self.assertEqual(found.things(), (("s", 0, 2, 0, 0), ("t", 0, 0, 1, 0), ("u", 0, 1, 0, 0)))
        self.assertEqual(found.coins(), (("ann", 4, 5, 0), ("bob", 0, 0, 0)))
        found.state = (state[0], (), (logged("reserved", "sent", "back") + logged("released", name="f"),
                                      logged("reserved", "released")), logged("held", "taken"), ())
        self.assertEqual(found.things(), (("s", 1, 0, 0, 1), ("t", 1, 0, 0, 0), ("u", 1, 0, 0, 0)))
        self.assertEqual(found.coins(), (("ann", 4, 0, 5), ("bob", 0, 0, 0)))
        found.state = (state[0], (), ((), ()), logged("held", "taken", "refunded") + logged("freed", name="e"), ())
        self.assertEqual(found.coins(), (("ann", 9, 0, 0), ("bob", 0, 0, 0)))

    def test_the_last_of_several_deals_words_counts(self):
        log = logged("reserved", name="e") + logged("released") + logged("released", name="e") + logged("reserved", name="f")
        self.assertEqual(self.at((logged("begun"), (), (log, ()), (), ())).things()[0], ("s", 1, 1, 0, 0))


class EventTest(unittest.TestCase):

    def test_events_that_can_be(self):
        found = world()
        self.assertIs(type(found.can()), list)
        self.assertEqual(sorted(found.can()), [
            ("begin", "d"), ("begin", "e"), ("begin", "f"), ("fall", "bank"), ("fall", "east"), ("fall", "shop"),
            ("fall", "west"), ("tick",)])
        found.do(("begin", "e"))
        found.do(("tick",))
        one, other = ("bank", "hold", "e", "shop"), ("east", "reserve", "e", "shop")
        self.assertEqual(sorted(found.can()), [
            ("begin", "d"), ("begin", "f"), ("come", one), ("come", other), ("double", one), ("double", other),
            ("fall", "bank"), ("fall", "east"), ("fall", "shop"), ("fall", "west"), ("give up", "e"), ("lose", one),
            ("lose", other), ("tick",)])
        self.assertEqual(sorted(World((), (), ()).can()), [("fall", "bank"), ("fall", "shop"), ("tick",)])

    def test_can_is_a_new_list(self):
        found = world()
        found.can().clear()
        self.assertEqual(len(found.can()), 8)

    def test_wrong_events(self):
        found = world()
        found.do(("begin", "e"))
        found.do(("tick",))
        state, log = found.state, found.log
        letter = ("bank", "hold", "e", "shop")
        wrong = [("begin", "e"), ("begin", "g"), ("give up", "d"), ("return", "e"), ("tick", "e"), ("tick"), ["tick"],
                 ("fall", "ann"), ("fall", "s"), ("fall", "e"), ("fall",), ("come",), ("come", "e"), ("come",) + letter,
                 ("come", list(letter)), ["come", letter], ("come", letter[:3]), ("read", letter),
                 ("come", ("bank", "hold", "d", "shop")), ("come", ("bank", "take", "e", "shop")),
                 ("double", ("west", "reserve", "e", "shop")), ("lose", ("shop", "held", "e", "bank")),
                 ("come", letter, letter), ("begin", ("d",)), ("begin", ["d"]), ("begun", "d"), ("", "d"), ("go", "e"),
                 ("giveup", "e"), ("come", None), ("fall", None), ("fall", ["shop"]), ("come", {"a": letter})]
        for event in wrong + list(ODD_VALUES):
            with self.subTest(event=event):
                self.assertRaises(BadEvent, found.do, event)
                self.assertEqual((found.state, found.log), (state, log))

    def test_a_letter_that_came_is_no_more(self):
        found = world()
        found.do(("begin", "e"))
        found.do(("tick",))
        for word, letter in (("come", ("bank", "hold", "e", "shop")), ("lose", ("east", "reserve", "e", "shop"))):
            found.do((word, letter))
            for again in ("come", "double", "lose"):
                self.assertRaises(BadEvent, found.do, (again, letter))

    def test_told_values_are_new(self):
        found = world()
        before = copy.deepcopy(found.setup)
        found.do(("begin", "d"))
        log, state, things = found.log, found.state, found.things()
        found.finish()
        self.assertEqual(log, (("begin", "d"),))
        self.assertEqual(state, (logged("begun"), (), ((), ()), (), ()))
        self.assertEqual(things, (("s", 2, 0, 0, 0), ("t", 1, 0, 0, 0), ("u", 1, 0, 0, 0)))
        self.assertEqual(found.setup, before)
        self.assertIs(type(found.log), tuple)

    def test_the_log_is_all_events_done(self):
        found = world()
        told = [("begin", "d"), ("tick",), ("fall", "east"), ("tick",), ("lose", ("bank", "hold", "d", "shop"))]
        for event in told:
            found.do(event)
        self.assertEqual(found.log, tuple(told))
        many = found.finish()
        self.assertEqual(len(found.log), 5 + many)
        again = world()
        for event in found.log:
            again.do(event)
        self.assertEqual((again.state, again.log), (found.state, found.log))


class StoryTest(unittest.TestCase):

    def test_one_deal_goes(self):
        found = world()
        found.do(("begin", "d"))
        found.finish()
        self.assertEqual(found.state[0], logged("begun", "go", "ended"))
        self.assertEqual(found.state[2:4], ((logged("reserved", "sent"), logged("reserved", "sent")),
                                            logged("held", "taken")))
        self.assertEqual(found.finish(), 0)

    def test_it_returns(self):
        found = world()
        found.do(("begin", "d"))
        found.finish()
        found.do(("return", "d"))
        self.assertGreater(found.finish(), 0)
        self.assertEqual(found.stage("d"), "returned")
        self.assertEqual(found.things(), (("s", 1, 0, 0, 1), ("t", 0, 0, 0, 1), ("u", 1, 0, 0, 0)))
        self.assertEqual(found.coins(), (("ann", 9, 0, 0), ("bob", 0, 0, 0)))
        self.assertRaises(BadEvent, found.do, ("return", "d"))

    def test_the_second_deal_finds_the_house_full_and_the_third_not(self):
        found = world()
        for name in "def":
            found.do(("begin", name))
            found.finish()
        self.assertEqual(found.state[0], logged("begun", "go", "ended") + logged("begun", "drop", "ended", name="e")
                         + logged("begun", "go", "ended", name="f"))
        self.assertEqual(found.things(), (("s", 0, 0, 2, 0), ("t", 0, 0, 1, 0), ("u", 0, 0, 1, 0)))
        self.assertEqual(found.coins(), (("ann", 4, 0, 5), ("bob", 0, 0, 0)))

    def test_the_buyer_is_poor(self):
        found = world(buyers=(("ann", 4), ("bob", 0)))
        found.do(("begin", "d"))
        found.finish()
        self.assertEqual(found.state[0], logged("begun", "drop", "ended"))
        self.assertEqual(found.things(), (("s", 2, 0, 0, 0), ("t", 1, 0, 0, 0), ("u", 1, 0, 0, 0)))
        self.assertEqual(found.coins(), (("ann", 4, 0, 0), ("bob", 0, 0, 0)))

    def test_given_up_ahead_of_the_first_letters(self):
        found = world()
        found.do(("begin", "d"))
        found.do(("give up", "d"))
        found.finish()
        self.assertEqual(found.state[2:4], ((logged("released"), logged("released")), logged("freed")))
        self.assertEqual(found.stage("d"), "ended")
        self.assertRaises(BadEvent, found.do, ("return", "d"))

    def test_given_up_behind_the_first_letters_which_come_late(self):
        found = world()
        found.do(("begin", "d"))
        found.do(("tick",))
        found.do(("double", ("east", "reserve", "d", "shop")))
        found.do(("give up", "d"))
        late = ("west", "reserve", "d", "shop")
        while found.stage("d") == "drop":
            rest = [letter for letter in found.letters if letter != late]
            found.do(("come", rest[0]) if rest else ("tick",))
        self.assertEqual(found.stage("d"), "ended")
        found.do(("come", late))
        self.assertIn(("shop", "released", "d", "west"), found.letters)
        self.assertEqual(found.state[2], (logged("reserved", "released"), logged("released")))
        self.assertEqual(found.things(), (("s", 2, 0, 0, 0), ("t", 1, 0, 0, 0), ("u", 1, 0, 0, 0)))

    def test_falls_at_every_step(self):
        for who in ("shop", "bank", "east", "west"):
            for step in range(40):
                found = world()
                found.do(("begin", "d"))
                for _ in range(step):
                    if found.stage("d") == "ended":
                        break
                    found.do(("come", found.letters[-1]) if found.letters else ("tick",))
                found.do(("fall", who))
                found.finish()
                self.assertEqual(found.state[0], logged("begun", "go", "ended"))
                self.assertEqual(found.things(), (("s", 1, 0, 1, 0), ("t", 0, 0, 1, 0), ("u", 1, 0, 0, 0)))
                self.assertEqual(found.coins(), (("ann", 4, 0, 5), ("bob", 0, 0, 0)))

    def test_finish_leaves_deals_that_have_not_begun(self):
        found = world()
        found.do(("begin", "e"))
        found.finish()
        self.assertEqual([found.stage(name) for name in "def"], ["", "ended", ""])


class DrawnTest(unittest.TestCase):

    def test_events_against_the_plain_world(self):
        events = 0
        for seed in range(150):
            draw = random.Random(seed)
            setup = drawn_setup(draw)
            found, plain = World(*setup), PlainWorld(*setup)
            for _ in range(draw.randint(0, 60)):
                event = next_event(draw, found)
                found.do(event)
                plain.do(event)
                self.compare(found, plain)
                events += 1
            self.ends_well(found)
        self.assertGreater(events, 3000)

    def compare(self, found, plain):
        """Both worlds tell the same, and what point 20 and point 22 ask holds."""
        self.assertEqual(found.state, plain.state())
        self.assertEqual(found.letters, found.state[4])
        can = found.can()
        self.assertEqual(set(can), plain.can())
        self.assertEqual(len(can), len(set(can)))
        self.assertEqual((found.things(), found.coins()), (plain.things(), plain.coins()))
        for rows in (found.state[1], found.state[4]):
            self.assertEqual(rows, tuple(sorted(set(rows))))
        for supply, row in zip(found.setup[0], found.things()):
            self.assertEqual((row[0], sum(row[1:])), (supply[0], supply[2]))
            self.assertGreaterEqual(min(row[1:]), 0)
        for buyer, row in zip(found.setup[2], found.coins()):
            self.assertEqual((row[0], sum(row[1:])), buyer)
            self.assertGreaterEqual(min(row[1:]), 0)

    def ends_well(self, found):
        """EACH ONCE: behind finish each deal that was begun is all of one kind, or it has not begun."""
        before = len(found.log)
        many = found.finish()
        self.assertEqual(len(found.log), before + many)
        self.assertTrue(all(event == ("tick",) or event[0] == "come" for event in found.log[before:]))
        self.assertEqual(found.finish(), 0)
        supplies, deals, _ = found.setup
        houses = list(dict.fromkeys([supply[1] for supply in supplies]))
        for name, _, parts, _ in deals:
            mine = [supply[1] for supply in supplies if supply[0] in [part[0] for part in parts]]
            last = {house: [word for word, one in log if one == name][-1:] for house, log in zip(houses, found.state[2])}
            words = {tuple(last[house]) for house in mine} | {tuple([word for word, one in found.state[3]
                                                                      if one == name][-1:])}
            went = ("go", name) in found.state[0]
            expected = {"": {()}, "returned": {("back",), ("refunded",)},
                        "ended": {("sent",), ("taken",)} if went else {("released",), ("freed",)}}
            self.assertEqual(words, expected[found.stage(name)])


if __name__ == "__main__":
    unittest.main()
