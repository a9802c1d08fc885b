"""What the document promises over the whole program, from texts and promises to letters and coins."""

import itertools
import random
import unittest

import checks
from draws import NAMES, drawn_catalog, drawn_order, insured_case
from plainworld import next_event
from samples import replaced
from surehouse.audits import audit
from surehouse.bills import bill, refunds, total_of
from surehouse.books import Book
from surehouse.desk import Desk
from surehouse.insured import SureBook, mended
from surehouse.ledgers import Ledger
from surehouse.links import catalog_behind, done, world_of
from surehouse.parcels import arrivals, come, left_after, windows
from surehouse.promises import can_keep, shows_can_keep
from surehouse.shoptexts import read_catalog, write_catalog, write_order


def shop(draw):
    """A catalog that is read from a text, and prices of its items."""
    catalog = read_catalog(write_catalog(drawn_catalog(draw, houses=3, supplies=7, count=6, last=3, slow=2)))
    return catalog, tuple([(item, draw.randint(0, 20), draw.randint(0, 999)) for item in catalog[2]])


def asked(draw, catalog, book, orders=8):
    """Ask a book, and a desk over the same catalog, drawn orders; at most six are promised."""
    desk = Desk()
    desk.read(write_catalog(catalog))
    for name in NAMES[:orders]:
        if len(book.orders) < 6:
            order = drawn_order(draw, catalog, name, last=7)
            told = "promised" if book.ask(order) else "cannot be kept"
            assert desk.say("ask " + write_order(catalog, order)) == told
    return desk


class NeverTakenBackTest(unittest.TestCase):

    def test_promises_are_kept_however_late_carriers_come(self):
        draw = random.Random(7)
        promised = refused = 0
        for _ in range(150):
            catalog, _ = shop(draw)
            book = Book(catalog)
            for name in NAMES[:9]:
                before = book.orders
                order = drawn_order(draw, catalog, name, last=7)
                if not book.ask(order):
                    # A refusal shows wishes that cannot be, and takes nothing back.
                    cut = book.refusals[-1][1]
                    self.assertTrue(checks.is_cut(catalog, before + (order,), cut[1]))
                    self.assertTrue(shows_can_keep(catalog, before + (order,), cut))
                    refused += 1
                self.assertEqual(book.orders[:len(before)], before)
                self.assertTrue(checks.is_plan(catalog, book.orders, book.sends()))
            promised += len(book.orders)
            self.in_time(draw, catalog, book)
        self.assertGreater(min(promised, refused), 150)

    def in_time(self, draw, catalog, book):
        """On whatever days within their windows sends go, and however long carriers take, all come in time."""
        spaces = windows(catalog, book.orders, book.sends())
        for _ in range(5):
            days = tuple([draw.randint(first, last) for first, last in spaces])
            comes = arrivals(catalog, book.orders, book.sends(), days)
            for spans in ([first - day for (first, _), day in zip(comes, days)],
                          [last - day for (_, last), day in zip(comes, days)],
                          [draw.randint(first, last) - day for (first, last), day in zip(comes, days)]):
                told = come(catalog, book.orders, book.sends(), days, tuple(spans))
                self.assertEqual([row[0] for row in told], [order[0] for order in book.orders])
                self.assertTrue(all(row[2] is True for row in told))
        left = left_after(catalog, book.orders, book.sends())
        self.assertEqual(sum(supply[4] for supply in catalog[4]) - sum(supply[4] for supply in left[4]),
                         sum(count for order in book.orders for _, count in order[2]))


class OnceTest(unittest.TestCase):

    def test_orders_go_through_letters(self):
        draw = random.Random(22)
        went = left = refused = 0
        for _ in range(150):
            catalog, prices = shop(draw)
            book = Book(catalog)
            desk = asked(draw, catalog, book)
            self.assertEqual(desk.say("orders"), ", ".join([write_order(catalog, one) for one in book.orders]) or "-")
            refused += len(book.refusals)
            buyers = tuple([("b" + order[0], draw.choice((0, 9, 40, 10 ** 6))) for order in book.orders])
            world = world_of(catalog, prices, book.orders, book.sends(), buyers)
            for _ in range(draw.randint(0, 90)):
                world.do(next_event(draw, world))
                self.each_once(world)
            world.finish()
            self.each_once(world)
            self.all_or_nothing(world)
            self.left_orders(catalog, book, world)
            self.money(catalog, prices, book, world)
            went += len(done(world)[0])
            left += len(done(world)[1])
        self.assertGreater(min(went, left, refused), 80)

    def each_once(self, world):
        """Each thing and each coin is in just one place, and nothing is wrong."""
        for there, row in zip(world.setup[0], world.things()):
            self.assertEqual((row[0], sum(row[1:])), (there[0], there[2]))
            self.assertGreaterEqual(min(row[1:]), 0)
        for there, row in zip(world.setup[2], world.coins()):
            self.assertEqual((row[0], sum(row[1:])), there)
            self.assertGreaterEqual(min(row[1:]), 0)
        self.assertEqual(audit(world), [])

    def all_or_nothing(self, world):
        """Behind finish nothing is reserved or held, and each deal is sent and paid, or neither."""
        self.assertTrue(all(row[2] == 0 for row in world.things() + world.coins()))
        stages = {deal[0]: world.stage(deal[0]) for deal in world.setup[1]}
        self.assertTrue(set(stages.values()) <= {"", "ended", "returned"})
        for place, supply in enumerate(world.setup[0]):
            gone = {"ended": 0, "returned": 0}
            for name, _, parts, _ in world.setup[1]:
                if name in done(world)[0]:
                    gone[stages[name]] += dict(parts).get(supply[0], 0)
            self.assertEqual(world.things()[place][3:], (gone["ended"], gone["returned"]))
        for place, buyer in enumerate(world.setup[2]):
            paid = sum(cents for name, who, _, cents in world.setup[1]
                       if who == buyer[0] and name in done(world)[0] and stages[name] == "ended")
            self.assertEqual(world.coins()[place][3], paid)

    def left_orders(self, catalog, book, world):
        """What is left of the catalog keeps all orders that are left: a new book promises each of them."""
        behind = catalog_behind(catalog, world)
        others = [order for order in book.orders if order[0] in done(world)[1]]
        again = Book(behind)
        self.assertTrue(all([again.ask(order) for order in others]))
        self.assertEqual(can_keep(behind, tuple(others))[0], "plan")

    def money(self, catalog, prices, book, world):
        """A ledger of what was paid and given back tells what the coins of the world tell."""
        people = [buyer[0] for buyer in world.setup[2]]
        ledger = Ledger((("bank", True), ("till", False)) + tuple([(name, False) for name in people]))
        for name, cents in world.setup[2]:
            ledger.post("has " + name, (("bank", -cents), (name, cents)))
        for order, name in zip(book.orders, people):
            lines = bill(catalog, prices, order, 0)
            if order[0] in done(world)[0]:
                for _ in range(2):
                    ledger.post("paid " + name, ((name, -total_of(lines)), ("till", total_of(lines))))
            if world.stage(order[0]) == "returned":
                whole = refunds(lines, tuple([tuple([line[1] for line in lines])]))[0]
                self.assertEqual(sum(whole), total_of(lines))
                ledger.turn_back("paid " + name)
        for name, with_buyer, _, taken in world.coins():
            self.assertEqual(ledger.balance(name), with_buyer)
        self.assertEqual(ledger.balance("till"), sum(row[3] for row in world.coins()))
        self.assertEqual(sum(cents for _, cents in ledger.balances), 0)


class InsuredTest(unittest.TestCase):

    def test_insured_promises_are_kept_whichever_house_closes(self):
        draw = random.Random(30)
        closings = promised = 0
        for _ in range(120):
            catalog, orders = insured_case(draw)
            book = SureBook(catalog)
            for order in orders:
                if len(checks.things_of(book.orders + (order,))) <= 5:
                    book.ask(order)
            promised += len(book.orders)
            last = max([order[3] for order in book.orders], default=0)
            for house, day in itertools.product(catalog[0], range(last + 1)):
                self.kept(catalog, book.orders, book.sends(), house, day)
                closings += 1
        self.assertGreater(promised, 60)
        self.assertGreater(closings, 500)

    def kept(self, catalog, orders, sends, house, day):
        """What went ahead of the day, and what is sent instead, are a plan in which the house sends nothing more."""
        counts = {}
        for sent, name, place, supply, count in sends:
            if sent < day:
                counts[(name, place, supply)] = counts.get((name, place, supply), 0) + count
        for name, place, supply, count in mended(catalog, orders, sends, house, day):
            row = checks.supply_of(catalog, supply)
            self.assertNotEqual(row[1], house)
            self.assertTrue(checks.can_serve(catalog, orders, (name, place), row, day))
            counts[(name, place, supply)] = counts.get((name, place, supply), 0) + count
        plan = tuple([wish + (count,) for wish, count in counts.items()])
        self.assertTrue(checks.is_plan(catalog, orders, plan))

    def test_an_insured_order_can_be_kept_and_more_things_change_nothing(self):
        draw = random.Random(31)
        for _ in range(60):
            catalog, orders = insured_case(draw)
            book, plain = SureBook(catalog), Book(catalog)
            for order in orders:
                if len(checks.things_of(book.orders + (order,))) <= 5 and book.ask(order):
                    self.assertTrue(plain.ask(order))
            more = replaced(catalog, 4, tuple([row[:4] + (row[4] + 1,) for row in catalog[4]]))
            again = SureBook(more)
            self.assertTrue(all([again.ask(order) for order in book.orders]))


if __name__ == "__main__":
    unittest.main()
