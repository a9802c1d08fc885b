"""From promises to deals and back (point 26, surehouse/links.py)."""

import copy
import random
import unittest

from draws import NAMES, drawn_catalog, drawn_orders
from plainworld import next_event
from samples import ODD_VALUES, letters, replaced
from surehouse import links
from surehouse.bills import bill, total_of
from surehouse.books import Book
from surehouse.catalogs import is_catalog
from surehouse.errors import BadCatalog, BadDeals, BadOrder, BadParcel, BadPrices
from surehouse.links import catalog_behind, done, world_of
from surehouse.promises import can_keep
from surehouse.worlds import World

SHOP = (
    ("east", "west", "shop"),
    ("ra",),
    ("tea", "cup"),
    (("east", "ra", 0, 1, 2), ("west", "ra", 0, 0, 5)),
    (("t", "west", "tea", 0, 4), ("s", "east", "tea", 0, 3), ("u", "east", "cup", 0, 2), ("v", "west", "cup", 9, 9)),
)
PRICES = (("tea", 100, 190), ("cup", 30, 0))
ORDERS = (("o", "ra", ((("tea",), 4), (("cup",), 1)), 4, 1), ("p", "ra", ((("cup", "tea"), 2),), 4, 1))
SENDS = (("p", 0, "u", 1), ("o", 0, "s", 1), ("o", 0, "t", 3), ("o", 1, "u", 1), ("p", 0, "t", 1))
BUYERS = (("ann", 506), ("bob", 59))


def made(buyers=BUYERS):
    return world_of(SHOP, PRICES, ORDERS, SENDS, buyers)


class WorldOfTest(unittest.TestCase):

    def test_defined_in_their_file(self):
        for function in (world_of, done, catalog_behind):
            self.assertEqual(function.__module__, links.__name__)

    def test_supplies_deals_and_buyers(self):
        world = made()
        self.assertIsInstance(world, World)
        # A tea is 100 and 19 of tax, a cup is 30: o is 4 teas and a cup, p is 2 of what is a cup first.
        self.assertEqual(world.setup, (
            (("t", "west", 4), ("s", "east", 3), ("u", "east", 2), ("v", "west", 9)),
            (("o", "ann", (("t", 3), ("s", 1), ("u", 1)), 506), ("p", "bob", (("t", 1), ("u", 1)), 60)),
            BUYERS))
        self.assertEqual((world.log, world.letters, world.state[0]), ((), (), ()))
        self.assertEqual(done(world), ((), ("o", "p")))
        self.assertEqual(catalog_behind(SHOP, world), SHOP)

    def test_what_is_sent_for_several_wishes_is_one_part(self):
        orders = (("o", "ra", ((("tea",), 2), (("tea", "cup"), 2)), 4, 1),)
        sends = (("o", 1, "s", 1), ("o", 0, "s", 2), ("o", 1, "u", 1))
        world = world_of(SHOP, PRICES, orders, sends, BUYERS[:1])
        self.assertEqual(world.setup[1], (("o", "ann", (("s", 3), ("u", 1)), 476),))

    def test_no_orders(self):
        world = world_of(SHOP, PRICES, (), (), ())
        self.assertEqual(world.setup[1:], ((), ()))
        self.assertEqual((done(world), catalog_behind(SHOP, world), world.finish()), (((), ()), SHOP, 0))

    def test_sent_and_paid(self):
        world = made()
        world.do(("begin", "o"))
        world.finish()
        self.assertEqual(done(world), (("o",), ("p",)))
        self.assertEqual([supply[4] for supply in catalog_behind(SHOP, world)[4]], [1, 2, 1, 9])
        # The buyer of p has one cent too few.
        world.do(("begin", "p"))
        world.finish()
        self.assertEqual(done(world), (("o",), ("p",)))
        self.assertEqual([supply[4] for supply in catalog_behind(SHOP, world)[4]], [1, 2, 1, 9])
        self.assertEqual(world.coins(), (("ann", 0, 0, 506), ("bob", 59, 0, 0)))

    def test_in_the_order_of_the_deals(self):
        world = made((("ann", 506), ("bob", 60)))
        for name, told in (("p", (("p",), ("o",))), ("o", (("o", "p"), ()))):
            world.do(("begin", name))
            world.finish()
            self.assertEqual(done(world), told)
        self.assertEqual([supply[4] for supply in catalog_behind(SHOP, world)[4]], [0, 2, 0, 9])

    def test_a_deal_that_goes_has_gone_when_the_shop_says_so(self):
        world = made()
        world.do(("begin", "o"))
        while world.stage("o") == "begun":
            self.assertEqual(done(world), ((), ("o", "p")))
            world.do(("come", world.letters[0]) if world.letters else ("tick",))
        self.assertEqual(world.stage("o"), "go")
        self.assertEqual(done(world), (("o",), ("p",)))
        # What is reserved is not free.
        self.assertEqual([supply[4] for supply in catalog_behind(SHOP, world)[4]], [1, 2, 1, 9])

    def test_what_returned_went_and_is_not_free(self):
        world = made()
        world.do(("begin", "o"))
        world.finish()
        world.do(("return", "o"))
        world.finish()
        self.assertEqual(world.stage("o"), "returned")
        self.assertEqual(done(world), (("o",), ("p",)))
        self.assertEqual([supply[4] for supply in catalog_behind(SHOP, world)[4]], [1, 2, 1, 9])

    def test_what_was_given_up_is_free(self):
        world = made()
        for event in (("begin", "o"), ("tick",), ("come", ("east", "reserve", "o", "shop")), ("give up", "o")):
            world.do(event)
        self.assertEqual([supply[4] for supply in catalog_behind(SHOP, world)[4]], [4, 2, 1, 9])
        world.finish()
        self.assertEqual(done(world), ((), ("o", "p")))
        self.assertEqual(catalog_behind(SHOP, world), SHOP)

    def test_the_catalog_behind_is_that_one_with_other_counts(self):
        world = made()
        world.do(("begin", "o"))
        world.finish()
        # Fewer supplies than the world has, in another order, with other days and counts.
        other = SHOP[:4] + ((("u", "west", "tea", 60, 0), ("t", "east", "cup", 5, 99)),)
        before = copy.deepcopy(other)
        self.assertEqual(catalog_behind(other, world),
                         SHOP[:4] + ((("u", "west", "tea", 60, 1), ("t", "east", "cup", 5, 1)),))
        self.assertEqual(other, before)
        self.assertTrue(is_catalog(catalog_behind(SHOP, world)))

    def test_a_world_without_a_supply(self):
        world = made()
        other = SHOP[:4] + (SHOP[4] + (("w", "east", "tea", 0, 0),),)
        self.assertRaises(BadDeals, catalog_behind, other, world)
        self.assertRaises(BadDeals, catalog_behind, SHOP, World(world.setup[0][1:], (), ()))
        self.assertEqual(catalog_behind(SHOP[:4] + ((),), World((), (), ()))[4], ())

    def test_what_is_no_world(self):
        for value in ODD_VALUES + (made().setup, made().state):
            self.assertRaises(BadDeals, done, value)
            self.assertRaises(BadDeals, catalog_behind, SHOP, value)
            for catalog in ODD_VALUES:
                self.assertRaises(BadCatalog, catalog_behind, catalog, value)
        for catalog in ODD_VALUES:
            self.assertRaises(BadCatalog, catalog_behind, catalog, made())


class WrongTest(unittest.TestCase):

    def test_sends_that_are_no_plan(self):
        wrong = [SENDS[:4], SENDS + SENDS[:1], list(SENDS), replaced(SENDS, 0, ("p", 0, "u", 2)),
                 replaced(SENDS, 0, ("p", 0, "v", 1)), replaced(SENDS, 3, ("o", True, "u", 1)), (), SENDS[0], ("plan", SENDS)]
        for sends in wrong + list(ODD_VALUES):
            with self.subTest(sends=sends):
                self.assertRaises(BadParcel, world_of, SHOP, PRICES, ORDERS, sends, BUYERS)
                self.assertRaises(BadParcel, world_of, SHOP, PRICES, ORDERS, sends, None)

    def test_prices_that_are_none(self):
        wrong = [PRICES[:1], PRICES[::-1], list(PRICES), replaced(PRICES, 0, ("tea", True, 0)), ()]
        for prices in wrong + list(ODD_VALUES):
            with self.subTest(prices=prices):
                self.assertRaises(BadPrices, world_of, SHOP, prices, ORDERS, SENDS, BUYERS)
                self.assertRaises(BadPrices, world_of, SHOP, prices, None, None, None)

    def test_catalogs_and_orders_that_are_none(self):
        for value in ODD_VALUES:
            self.assertRaises(BadCatalog, world_of, value, PRICES, ORDERS, SENDS, BUYERS)
            self.assertRaises(BadCatalog, world_of, value, None, None, None, None)
            if value != ():
                self.assertRaises(BadOrder, world_of, SHOP, PRICES, value, SENDS, BUYERS)
                self.assertRaises(BadOrder, world_of, SHOP, PRICES, value, None, None)
        self.assertRaises(BadOrder, world_of, SHOP, PRICES, ORDERS + ORDERS[:1], SENDS, BUYERS)
        self.assertRaises(BadParcel, world_of, SHOP, PRICES, (), SENDS, ())

    def test_buyers_that_are_none(self):
        wrong = [(), BUYERS[:1], BUYERS + (("cid", 5),), list(BUYERS), BUYERS[:1] * 2, (("ann", 5), ("ann", 6)),
                 (("ann", -1), ("bob", 5)), (("ann", 10 ** 9 + 1), ("bob", 5)), (("ann", True), ("bob", 5)),
                 (("Ann", 5), ("bob", 5)), (("ann",), ("bob", 5)), (["ann", 5], ("bob", 5)), BUYERS[0]]
        for buyers in wrong + list(ODD_VALUES):
            with self.subTest(buyers=buyers):
                self.assertRaises(BadDeals, world_of, SHOP, PRICES, ORDERS, SENDS, buyers)
        self.assertEqual(made((("ann", 10 ** 9), ("bob", 0))).setup[2], (("ann", 10 ** 9), ("bob", 0)))

    def many(self, orders=1, supplies=1, house="east"):
        """A good plan of so many orders of one thing over so many supplies."""
        rows = tuple([(name, house, "tea", 0, 99) for name in letters(supplies)])
        catalog = ((house, "west"), ("ra",), ("tea",), ((house, "ra", 0, 0, 0),), rows)
        told = tuple([(name, "ra", ((("tea",), 1),), 0, 1) for name in NAMES[:orders]])
        buyers = tuple([(name, 5) for name in NAMES[:orders]])
        return catalog, (("tea", 1, 0),), told, can_keep(catalog, told)[1], buyers

    def test_six_and_seven_orders_eight_and_nine_supplies(self):
        self.assertEqual(len(world_of(*self.many(orders=6)).setup[1]), 6)
        self.assertEqual(len(world_of(*self.many(supplies=8)).setup[0]), 8)
        for orders in (7, 12):
            self.assertRaises(BadDeals, world_of, *self.many(orders=orders))
        for supplies in (9, 14):
            self.assertRaises(BadDeals, world_of, *self.many(supplies=supplies))
            self.assertRaises(BadDeals, world_of, *self.many(orders=0, supplies=supplies))

    def test_too_many_ahead_of_what_is_wrong_further_right(self):
        for catalog in (self.many(supplies=9)[0], self.many(house="bank")[0]):
            self.assertRaises(BadDeals, world_of, catalog, None, None, None, None)
        catalog, prices, orders, _, buyers = self.many(orders=7)
        self.assertRaises(BadPrices, world_of, catalog, None, orders, None, buyers)
        self.assertRaises(BadDeals, world_of, catalog, prices, orders, None, None)

    def test_a_house_called_shop_or_bank(self):
        for house in ("shop", "bank"):
            self.assertRaises(BadDeals, world_of, *self.many(house=house))
            self.assertRaises(BadDeals, world_of, *self.many(orders=0, house=house))
        # Without a supply it is no house of the world.
        self.assertEqual(world_of(*self.many(orders=0, supplies=0, house="shop")).setup, ((), (), ()))

    def test_supplies_at_their_limits(self):
        wishes = ((("tea",), 99), (("cup",), 99), (("pot",), 99))
        supplies = tuple([(name, "east", name, 0, 99) for name in ("tea", "cup", "pot")])
        catalog = (("east",), ("ra",), ("tea", "cup", "pot"), (("east", "ra", 0, 0, 0),), supplies)
        prices = tuple([(name, 999999, 999) for name in ("tea", "cup", "pot")])
        orders = (("o", "ra", wishes, 0, 0),)
        world = world_of(catalog, prices, orders, can_keep(catalog, orders)[1], (("ann", 10 ** 9),))
        self.assertEqual(world.setup[1][0][2], (("tea", 99), ("cup", 99), ("pot", 99)))
        self.assertEqual(world.setup[1][0][3], total_of(bill(catalog, prices, orders[0], 0)))
        world.do(("begin", "o"))
        world.finish()
        self.assertEqual(done(world), (("o",), ()))
        self.assertEqual([supply[4] for supply in catalog_behind(catalog, world)[4]], [0, 0, 0])

    def test_arguments_stay(self):
        arguments = (SHOP, PRICES, ORDERS, SENDS, BUYERS)
        before = copy.deepcopy(arguments)
        world = world_of(*arguments)
        self.assertEqual(world.setup, world_of(*arguments).setup)
        world.do(("begin", "o"))
        world.finish()
        self.assertEqual(arguments, before)


class DrawnTest(unittest.TestCase):

    def test_sent_and_paid_or_neither(self):
        draw = random.Random(26)
        told = {"went": 0, "left": 0}
        for _ in range(300):
            catalog = drawn_catalog(draw, houses=3, supplies=6, count=5)
            book = Book(catalog)
            for order in drawn_orders(draw, catalog, orders=8):
                if len(book.orders) < 6:
                    book.ask(order)
            self.goes_through(draw, catalog, book.orders, book.sends(), told)
        self.assertGreater(min(told.values()), 100)

    def goes_through(self, draw, catalog, orders, sends, told):
        """Whatever events there are, what is left of the catalog keeps the orders that are left."""
        prices = tuple([(item, draw.randint(0, 9), draw.randint(0, 999)) for item in catalog[2]])
        buyers = tuple([("b" + order[0], draw.choice((0, 5, 20, 999))) for order in orders])
        world = world_of(catalog, prices, orders, sends, buyers)
        for _ in range(draw.randint(0, 80)):
            world.do(next_event(draw, world))
        world.finish()
        went, others = done(world)
        self.assertEqual(sorted(went + others), [order[0] for order in orders])
        left = tuple([order for order in orders if order[0] in others])
        behind = catalog_behind(catalog, world)
        self.assertEqual(can_keep(behind, left)[0], "plan")
        for supply, rest in zip(catalog[4], behind[4]):
            gone = sum(send[3] for send in sends if send[2] == supply[0] and send[0] in went)
            self.assertEqual(rest, supply[:4] + (supply[4] - gone,))
        for order, (name, cents), row in zip(orders, buyers, world.coins()):
            due = total_of(bill(catalog, prices, order, 0))
            paid = due if order[0] in went and world.stage(order[0]) == "ended" else 0
            self.assertEqual(row, (name, cents - paid, 0, paid))
        told["went"] += len(went)
        told["left"] += len(others)


if __name__ == "__main__":
    unittest.main()
