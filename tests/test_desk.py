"""A desk that takes lines and answers lines (point 29, surehouse/desk.py)."""

import random
import unittest

from draws import NAMES, drawn_catalog, drawn_order, great_case
from samples import ODD_VALUES
from surehouse import desk
from surehouse.books import Book
from surehouse.costs import cheapest
from surehouse.desk import Desk
from surehouse.errors import BadItem, BadLine, BadName, BadNumber
from surehouse.promises import can_keep
from surehouse.shoptexts import read_catalog, read_order, write_catalog, write_order

TEXT = """house east
house west
region ra
region rb
item tea
item pot
lane east ra 1 2 5
lane west ra 0 1 2
supply s east tea 3 4
supply t west tea 6 1
supply u west pot 0 2"""
KNOWN_LINES = ("ask o ra 5 1 tea 3", "ask", "ask x", "cancel o", "most tea ra 5", "earliest tea ra 1", "orders", "plan",
               "why", "cost")
UNKNOWN_LINES = (
    "", " ", "what", "Ask o ra 5 1 tea 3", "asked", "ask\to", "cancel", "cancel o p", "most", "most tea", "most tea ra",
    "most tea ra 5 5", "earliest", "earliest tea ra", "earliest tea ra 1 1", "orders o", "plan 1", "why not", "cost 5",
    "order", "plans", "cost\n", "orders\n", "-", "read", "house a", "most\ttea ra 5", "ORDERS", "curve tea ra", "5")


class DeskTest(unittest.TestCase):

    def setUp(self):
        self.desk = Desk()
        self.desk.read(TEXT)

    def told(self, line, answer):
        self.assertEqual(self.desk.say(line), answer, line)

    def test_defined_in_its_file(self):
        self.assertEqual(Desk.__module__, desk.__name__)
        for name in ("read", "say"):
            self.assertIn(name, vars(Desk))

    def test_example(self):
        one = Desk()
        self.assertIsNone(one.read("house a\nregion b\nitem c\nlane a b 0 1 2\nsupply s a c 0 3"))
        self.assertEqual([one.say("ask o b 4 1 c 2"), one.say("most c b 4"), one.say("ask p b 4 1 c 2"), one.say("why")],
                         ["promised", "1", "cannot be kept", "o 0, p 0"])

    def test_ask(self):
        self.told("ask o ra 5 1 tea 3", "promised")
        self.told("ask p ra 5 1 tea 2", "cannot be kept")
        self.told("ask p ra 8 1 tea 2", "promised")
        self.told("ask o ra 5 1 pot 1", "no such name")
        self.told("ask p ra 60 1 pot 1", "no such name")
        self.told("  ask  q  ra 60 1 tea/pot  1 ", "promised")
        self.told("orders", "o ra 5 1 tea 3, p ra 8 1 tea 2, q ra 60 1 tea/pot 1")

    def test_a_wrong_words_number(self):
        words = "o ra 5 1 tea 3".split()
        for place, wrong in enumerate(("O", "rc", "61", "1000", "tea/tea", "0")):
            self.told("ask " + " ".join(words[:place] + [wrong] + words[place + 1:]), f"word {place + 1}")
        for many in range(6):
            self.told(" ".join(["ask"] + words[:many]), f"word {many + 1}")
        self.told("ask o ra 5 1 tea 3 pot", "word 8")
        self.told("ask o ra 5 1 tea 3 pot 1 tea 1 pot 1", "word 11")
        self.told("ask o ra 5 1 tea 3\n", "word 6")
        self.told("orders", "-")
        # A wrong word counts, although the name stands already.
        self.told("ask o ra 5 1 tea 3", "promised")
        self.told("ask o ra 5 1 tea 03", "word 6")

    def test_twelve_orders_and_one_more(self):
        self.desk.read("house a\nregion b\nitem c\nlane a b 0 1 2\nsupply s a c 0 99")
        for name in NAMES[:12]:
            self.told(f"ask {name} b 4 1 c 1", "promised")
        self.told("ask m b 4 1 c 1", "no such name")
        self.told("most c b 4", "87")
        self.told("cancel d", "done")
        self.told("ask m b 4 1 c 1", "promised")

    def test_cancel(self):
        self.told("cancel o", "no such name")
        self.told("ask o ra 5 1 tea 3", "promised")
        for name in ("p", "O", "tea", "o,", "ask", "-"):
            self.told("cancel " + name, "no such name")
        self.told("cancel o", "done")
        self.told("cancel o", "no such name")
        self.told(" ask   o ra 5 1 tea 3", "promised")
        self.told("cancel  o ", "done")
        self.told("orders", "-")

    def test_most(self):
        self.told("most tea ra 5", "4")
        self.told("most tea ra 4", "0")
        self.told("most tea ra 7", "5")
        self.told("most tea/pot ra 60", "7")
        self.told("most pot/tea ra 1", "2")
        self.told("most tea rb 60", "0")
        self.told("ask o ra 5 1 tea 3", "promised")
        self.told("most tea ra 5", "1")

    def test_earliest(self):
        self.told("earliest tea ra 1", "day 5")
        self.told("earliest tea ra 5", "day 7")
        self.told("earliest tea ra 6", "never")
        self.told("earliest tea/pot ra 7", "day 7")
        self.told("earliest pot ra 1", "day 1")
        self.told("earliest tea rb 1", "never")
        self.told("earliest tea ra 999", "never")

    def test_names_and_numbers_that_are_none(self):
        for word, good in (("most", "5"), ("earliest", "1")):
            for items in ("teas", "tea/", "/tea", "tea/tea", "tea//pot", "tea/pot/cup", "5", "ra", "tea,pot", "/"):
                self.told(f"{word} {items} ra {good}", "no such name")
                self.told(f"{word} {items} rc x", "no such name")
            for region in ("rc", "east", "tea", "RA", "5", "ra/rb"):
                self.told(f"{word} tea {region} {good}", "no such name")
                self.told(f"{word} tea {region} x", "no such name")
            for number in ("x", "-1", "+1", "01", "1.0", "tea", "00", "1000", "9" * 5000, "\u0663", "5\n"):
                self.told(f"{word} tea ra {number}", "no such number")
        for line, answer in (("most tea ra 0", "0"), ("most tea ra 60", "5"), ("most tea ra 61", "no such number"),
                             ("earliest tea ra 0", "no such number"), ("earliest tea ra 61", "never")):
            self.told(line, answer)

    def test_an_empty_book(self):
        for line, answer in (("orders", "-"), ("plan", "-"), ("why", "-"), ("cost", "0")):
            self.told(line, answer)

    def test_plan_and_cost(self):
        self.told("ask o ra 5 1 tea 4", "promised")
        self.told("plan", "o 0 s 4")
        self.told("cost", "20")
        self.told("ask p ra 7 1 pot 2 tea 1", "promised")
        self.assertEqual(sorted(self.desk.say("plan").split(", ")), ["o 0 s 4", "p 0 u 2", "p 1 t 1"])
        self.told("cost", "26")

    def test_the_cost_is_that_of_the_cheapest_plan(self):
        self.desk.read("house a\nhouse b\nregion r\nitem i\nitem j\nlane a r 0 0 9\nlane b r 0 0 1\n"
                       "supply x a i 0 5\nsupply y b i 0 5")
        self.told("ask o r 0 0 i 5", "promised")
        self.told("cost", "5")
        self.told("ask p r 0 0 i 1", "promised")
        self.told("cost", "14")

    def test_why(self):
        self.told("ask o ra 5 1 tea 3", "promised")
        self.told("why", "-")
        self.told("ask p ra 5 1 pot 1 tea 2", "cannot be kept")
        self.assertEqual(sorted(self.desk.say("why").split(", ")), ["o 0", "p 1"])
        self.told("ask q rb 5 1 pot 1", "cannot be kept")
        self.told("why", "q 0")
        # It is the last refusal still.
        for line in ("cancel o", "ask p ra 5 1 pot 1 tea 2", "ask o x", "most tea ra 5"):
            self.desk.say(line)
        self.told("why", "q 0")

    def test_other_lines_and_kinds(self):
        for line in UNKNOWN_LINES + ODD_VALUES:
            self.told(line, "what")
        for line in ((), ("orders",), ["orders"], {"orders": 1}, 5, None, True):
            self.told(line, "what")

    def test_without_a_catalog(self):
        new = Desk()
        for line in KNOWN_LINES:
            self.assertEqual(new.say(line), "no catalog")
        for line in UNKNOWN_LINES + ODD_VALUES:
            self.assertEqual(new.say(line), "what")
        self.assertRaises(BadLine, new.read, "house a")
        for line in KNOWN_LINES:
            self.assertEqual(new.say(line), "no catalog")

    def test_a_second_read(self):
        self.told("ask o ra 5 1 tea 3", "promised")
        self.told("ask p ra 5 1 tea 3", "cannot be kept")
        self.assertIsNone(self.desk.read("house a\nregion ra\nitem tea\nlane a ra 0 0 0\nsupply s a tea 0 2"))
        for line, answer in (("orders", "-"), ("why", "-"), ("cancel o", "no such name"), ("most tea ra 0", "2"),
                             ("most pot ra 0", "no such name"), ("ask o ra 0 0 tea 2", "promised")):
            self.told(line, answer)

    def test_a_read_that_fails(self):
        self.told("ask o ra 5 1 tea 3", "promised")
        self.told("ask p ra 5 1 tea 3", "cannot be kept")
        for text, line, word in (("house a\nregion b", 3, 1), ("shed", 1, 1), (TEXT + "\nsupply s", 12, 2), ("", 2, 1),
                                 (None, 1, 1), (["house a"], 1, 1), (5, 1, 1)):
            with self.assertRaises(BadLine) as caught:
                self.desk.read(text)
            self.assertEqual((caught.exception.line, caught.exception.word), (line, word))
            self.told("orders", "o ra 5 1 tea 3")
            self.told("most tea ra 5", "1")
            self.assertEqual(sorted(self.desk.say("why").split(", ")), ["o 0", "p 0"])


class DrawnTest(unittest.TestCase):

    def test_against_a_book(self):
        answers = {}
        for seed in range(120):
            draw = random.Random(29 + seed)
            catalog = drawn_catalog(draw, houses=2, supplies=6, count=6)
            one, book = Desk(), Book(catalog)
            one.read(write_catalog(catalog))
            for _ in range(40):
                line = self.line(draw, catalog)
                expected = self.expected(catalog, book, line.split())
                self.assertEqual(one.say(line), expected, line)
                kind = "number" if expected.isdigit() else expected.rstrip("0123456789")
                answers[kind if len(kind) < 20 else "long"] = True
            self.tells_of(one, catalog, book)
        for kind in ("promised", "cannot be kept", "no such name", "done", "number", "day ", "never", "no such number"):
            self.assertIn(kind, answers)

    def line(self, draw, catalog):
        items = "/".join(draw.sample(catalog[2] + ("no",), draw.randint(1, min(2, len(catalog[2])))))
        region = draw.choice(catalog[1] + catalog[1] + ("no",))
        name = draw.choice(NAMES[:6])
        return draw.choice((
            "ask " + write_order(catalog, drawn_order(draw, catalog, name, count=3, last=6)),
            "ask " + write_order(catalog, drawn_order(draw, catalog, name, wishes=1, count=2, last=6)),
            "cancel " + name, f"most {items} {region} {draw.randint(0, 8)}", f"most {items} {region} {draw.randint(50, 70)}",
            f"earliest {items} {region} {draw.randint(0, 5)}", "orders", "cost"))

    def expected(self, catalog, book, words):
        """What the book over the same catalog says."""
        try:
            if words[0] == "ask":
                return "promised" if book.ask(read_order(catalog, " ".join(words[1:]))) else "cannot be kept"
            if words[0] == "cancel":
                book.cancel(words[1])
                return "done"
            if words[0] == "most":
                return str(book.most(tuple(words[1].split("/")), words[2], int(words[3]))[0])
            if words[0] == "earliest":
                day = book.earliest(tuple(words[1].split("/")), words[2], int(words[3]))
                return "never" if day is None else f"day {day}"
            if words[0] == "cost":
                return str(cheapest(catalog, book.orders)[2])
            return ", ".join([write_order(catalog, order) for order in book.orders]) or "-"
        except BadName:
            return "no such name"
        except BadItem:
            known = set(words[1].split("/")) <= set(catalog[2]) and words[2] in catalog[1]
            return "no such number" if known else "no such name"
        except BadNumber:
            return "no such number"

    def tells_of(self, one, catalog, book):
        """Plan and why are a plan and a cut of the book's orders."""
        rows = [row.split() for row in one.say("plan").split(", ") if row != "-"]
        sends = tuple([(name, int(place), supply, int(count)) for name, place, supply, count in rows])
        self.assertEqual(one.say("plan"), ", ".join([" ".join(map(str, send)) for send in book.sends()]) or "-")
        self.assertEqual(sum(send[3] for send in sends),
                         sum(count for order in book.orders for _, count in order[2]))
        cut = [wish for refusal in book.refusals[-1:] for wish in refusal[1][1]]
        self.assertEqual(one.say("why"), ", ".join([f"{name} {place}" for name, place in cut]) or "-")

    def test_a_great_catalog(self):
        catalog, orders = great_case(3)
        one, promised = Desk(), ()
        one.read(write_catalog(catalog))
        self.assertEqual(read_catalog(write_catalog(catalog)), catalog)
        for order in orders:
            told = one.say("ask " + write_order(catalog, order))
            self.assertEqual(told == "promised", can_keep(catalog, promised + (order,))[0] == "plan")
            promised += (order,) if told == "promised" else ()
        self.assertEqual(one.say("orders"), ", ".join([write_order(catalog, order) for order in promised]))


if __name__ == "__main__":
    unittest.main()
