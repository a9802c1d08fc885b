"""The cheapest plan and its prices (point 10, surehouse/costs.py)."""

import copy
import itertools
import random
import unittest

import checks
from draws import great_case, small_cases
from samples import ODD_VALUES, letters, replaced
from surehouse import costs
from surehouse.costs import cheapest, shows_cheapest
from surehouse.errors import BadCatalog, BadOrder
from surehouse.promises import can_keep

SHOP = (
    ("east", "west"),
    ("ra", "rb"),
    ("tea", "cup"),
    (("east", "ra", 0, 1, 2), ("west", "ra", 0, 1, 5), ("east", "rb", 0, 1, 1)),
    (("s", "east", "tea", 0, 1), ("t", "west", "tea", 0, 9), ("u", "east", "cup", 0, 0)),
)
ONE = (("o", "ra", ((("tea",), 2),), 3, 1),)
TOLD = ("plan", (("o", 0, "s", 1), ("o", 0, "t", 1)), 7, ((3, 0, 0), (5,)))


class CheapestTest(unittest.TestCase):

    def right(self, catalog, orders):
        """What cheapest tells keeps point 10; its word."""
        told = cheapest(catalog, orders)
        self.assertIs(shows_cheapest(catalog, orders, told), True)
        if told[0] == "cut":
            self.assertEqual(len(told), 2)
            self.assertTrue(checks.is_cut(catalog, orders, told[1]))
            return told
        word, sends, cost, prices = told
        self.assertEqual(word, "plan")
        self.assertTrue(checks.is_plan(catalog, orders, sends))
        self.assertEqual(cost, checks.cost_of(catalog, orders, sends))
        self.assertTrue(checks.are_prices(catalog, orders, sends, prices))
        return told

    def test_defined_in_their_file(self):
        for function in (costs.cheapest, costs.shows_cheapest):
            self.assertEqual(function.__module__, "surehouse.costs")

    def test_the_example_of_the_interface(self):
        catalog = replaced(SHOP, 4, SHOP[4][:2])
        self.assertEqual(cheapest(catalog, ONE), TOLD[:3] + (((3, 0), (5,)),))

    def test_the_cheap_house_first(self):
        for count, cost in ((1, 2), (2, 7), (10, 47)):
            told = self.right(SHOP, (("o", "ra", ((("tea",), count),), 3, 1),))
            self.assertEqual(told[2], cost)
        self.assertEqual(self.right(SHOP, (("o", "ra", ((("tea",), 11),), 3, 1),)), ("cut", (("o", 0),)))

    def test_the_cheap_thing_goes_where_it_saves_most(self):
        lanes = (("east", "ra", 0, 0, 0), ("west", "ra", 0, 0, 9), ("east", "rb", 0, 0, 1), ("west", "rb", 0, 0, 50))
        catalog = replaced(replaced(SHOP, 3, lanes), 4, (("s", "east", "tea", 0, 1), ("t", "west", "tea", 0, 1)))
        orders = (("o", "ra", ((("tea",), 1),), 3, 1), ("p", "rb", ((("tea",), 1),), 3, 1))
        for row in (orders, orders[::-1]):
            told = self.right(catalog, row)
            self.assertEqual((set(told[1]), told[2]), ({("o", 0, "t", 1), ("p", 0, "s", 1)}, 10))

    def test_no_orders(self):
        told = self.right(SHOP, ())
        self.assertEqual((told[:3], told[3][0][:2], told[3][1]), (("plan", (), 0), (0, 0), ()))
        self.assertEqual(cheapest(replaced(SHOP, 4, ()), ()), ("plan", (), 0, ((), ())))

    def test_a_supply_without_things_has_a_price_too(self):
        # The wish would rather have the cup of the east, but there is none: all of it is sent.
        orders = (("o", "ra", ((("cup", "tea"), 2),), 3, 1),)
        told = self.right(SHOP, orders)
        self.assertEqual((told[2], told[3][0][:2], told[3][1]), (7, (3, 0), (5,)))
        self.assertGreaterEqual(told[3][0][2], 3)

    def test_lanes_without_a_price(self):
        lanes = tuple([lane[:4] + (0,) for lane in SHOP[3]])
        told = self.right(replaced(SHOP, 3, lanes), ONE)
        self.assertEqual(told[2], 0)

    def test_against_a_search_through_all_plans(self):
        words = {"plan": 0, "cut": 0}
        for catalog, orders in small_cases(10, 1500):
            plans = checks.all_plans(catalog, orders)
            with self.subTest(catalog=catalog, orders=orders):
                told = self.right(catalog, orders)
                words[told[0]] += 1
                self.assertEqual(told[0], "plan" if plans else "cut")
                if plans:
                    self.assertEqual(told[2], min(checks.cost_of(catalog, orders, sends) for sends in plans))
        self.assertGreater(min(words.values()), 300)

    def test_great_ones_are_answered_at_once(self):
        words = set()
        for seed in range(25):
            catalog, orders = great_case(seed)
            told = self.right(catalog, orders)
            words.add(told[0])
            self.assertEqual(told[0], can_keep(catalog, orders)[0])
        self.assertEqual(words, {"plan", "cut"})

    def test_scarce_things_that_all_would_do(self):
        draw = random.Random(100)
        for _ in range(4):
            houses, regions, items = tuple("abcde"), tuple("vwxy"), tuple("ijklm")
            lanes = tuple([(house, region, 0, 0, draw.randint(0, 99)) for house in houses for region in regions])
            rows = tuple([("s%d" % place, draw.choice(houses), items[place % 5], 0, 99) for place in range(14)])
            orders = tuple([(name, draw.choice(regions), tuple([(items[at:at + 3], 38) for at in (0, 1, 2)]), 9, 1)
                            for name in letters(12)])
            self.assertEqual(self.right((houses, regions, items, lanes, rows), orders)[0], "plan")

    def test_values_are_of_tuples_and_arguments_stay(self):
        arguments = (SHOP, ONE)
        before = copy.deepcopy(arguments)
        found = cheapest(*arguments)
        self.assertEqual(found, cheapest(*arguments))
        self.assertEqual(arguments, before)
        for row in (found, found[1], found[1][0], found[3], found[3][0], found[3][1]):
            self.assertIs(type(row), tuple)
        for number in (found[2],) + found[3][0] + found[3][1]:
            self.assertIs(type(number), int)

    def test_errors(self):
        many = tuple([replaced(ONE[0], 0, name) for name in letters(13)])
        for value in ODD_VALUES + (list(ONE), ONE[0], ONE + ONE, many):
            with self.subTest(value=value):
                self.assertRaises(BadOrder, cheapest, SHOP, value)
                self.assertRaises(BadOrder, shows_cheapest, SHOP, value, TOLD)
                self.assertRaises(BadCatalog, cheapest, (), value)
                self.assertRaises(BadCatalog, shows_cheapest, (), value, value)
        for value in ODD_VALUES + ((), list(SHOP)):
            self.assertRaises(BadCatalog, cheapest, value, ONE)
            self.assertRaises(BadCatalog, shows_cheapest, value, ONE, TOLD)


class ShowsCheapestTest(unittest.TestCase):

    def shown(self, *values, orders=ONE):
        for value in values:
            with self.subTest(value=value):
                self.assertIs(shows_cheapest(SHOP, orders, value), True)

    def not_shown(self, *values, orders=ONE):
        for value in values:
            with self.subTest(value=value):
                self.assertIs(shows_cheapest(SHOP, orders, value), False)

    def test_other_prices_that_keep_the_point(self):
        self.shown(TOLD, replaced(TOLD, 1, TOLD[1][::-1]))
        # The cups cannot serve the wish, and all none of them are sent.
        self.shown(*[replaced(TOLD, 3, ((3, 0, price), (5,))) for price in (0, 1, 7, 99998, 99999)])

    def test_prices_that_miss_it(self):
        self.not_shown(*[replaced(TOLD, 3, prices) for prices in (
            ((2, 0, 0), (5,)), ((4, 0, 0), (5,)), ((3, 1, 0), (5,)), ((3, 1, 0), (6,)), ((3, 0, 0), (4,)),
            ((3, 0, 0), (6,)), ((3, -1, 0), (5,)), ((2, 0, 0), (4,)), ((3, 0, -1), (5,)), ((3, 0, 100000), (5,)),
            ((3, 0, 10 ** 30), (5,)), ((3, 0, True), (5,)), ((3, False, 0), (5,)), ((3, 0, None), (5,)),
            ((3, 0, "0"), (5,)), ((3, 0), (5,)), ((3, 0, 0, 0), (5,)), ((3, 0, 0), ()), ((3, 0, 0), (5, 5)),
            ([3, 0, 0], (5,)), ((3, 0, 0), [5]), ((3, 0, 0),), ((3, 0, 0), (5,), ()), ((5,), (3, 0, 0)),
            [(3, 0, 0), (5,)], (3, 0, 0, 5))])

    def test_prices_of_one_in_place_of_true(self):
        lanes = (("east", "ra", 0, 1, 1), ("west", "ra", 0, 1, 2))
        catalog = replaced(SHOP, 3, lanes)
        orders = (("o", "ra", ((("tea",), 1),), 3, 1),)
        sends = (("o", 0, "s", 1),)
        self.assertIs(shows_cheapest(catalog, orders, ("plan", sends, 1, ((0, 0, 0), (1,)))), True)
        self.assertIs(shows_cheapest(catalog, orders, ("plan", sends, 1, ((1, 0, 0), (2,)))), True)
        for told in (("plan", sends, True, ((0, 0, 0), (1,))), ("plan", sends, 1, ((0, 0, 0), (True,))),
                     ("plan", sends, 1, ((True, 0, 0), (2,))), ("plan", sends, 1, ((1, False, 0), (2,))),
                     ("plan", (("o", 0, "s", True),), 1, ((0, 0, 0), (1,))),
                     ("plan", sends, 1, ((2, 0, 0), (3,)))):
            self.assertIs(shows_cheapest(catalog, orders, told), False)

    def test_where_not_all_is_sent_the_price_is_nought(self):
        orders = (("o", "ra", ((("tea",), 3),), 3, 1),)
        sends = (("o", 0, "s", 1), ("o", 0, "t", 2))
        self.shown(("plan", sends, 12, ((3, 0, 0), (5,))), orders=orders)
        self.not_shown(("plan", sends, 12, ((4, 1, 0), (6,))), orders=orders)
        all_sent = (("o", "ra", ((("tea",), 10),), 3, 1),)
        sends = (("o", 0, "s", 1), ("o", 0, "t", 9))
        self.shown(*[("plan", sends, 47, ((3 + more, more, 0), (5 + more,))) for more in (0, 1, 99994)],
                   orders=all_sent)
        self.not_shown(*[("plan", sends, 47, ((3 + more, more, 0), (5 + more,))) for more in (-1, 99995, 99996, 99999)],
                       orders=all_sent)

    def test_costs(self):
        self.not_shown(*[replaced(TOLD, 2, cost) for cost in (6, 8, 0, -7, True, None, "7", (7,), [7], 10 ** 30)])

    def test_plans_that_are_not_the_cheapest(self):
        sends = (("o", 0, "t", 2),)
        for prices in itertools.product(range(0, 8), range(0, 8), range(0, 11)):
            self.assertIs(shows_cheapest(SHOP, ONE, ("plan", sends, 10, (prices[:2] + (0,), prices[2:]))), False)

    def test_plans_that_are_none(self):
        for sends in (TOLD[1][:1], TOLD[1] + TOLD[1][:1], list(TOLD[1]), (("o", 0, "s", 2),), ()):
            self.not_shown(replaced(TOLD, 1, sends))

    def test_every_cheapest_plan_with_prices_of_another(self):
        # Prices that keep the point with one cheapest plan do so with every one.
        many = 0
        for catalog, orders in small_cases(11, 400):
            told = cheapest(catalog, orders)
            if told[0] == "cut":
                for wishes in checks.all_cuts(catalog, orders):
                    self.assertIs(shows_cheapest(catalog, orders, ("cut", wishes)), True)
                self.assertIs(shows_cheapest(catalog, orders, ("cut", ())), False)
                continue
            for sends in checks.all_plans(catalog, orders):
                cost = checks.cost_of(catalog, orders, sends)
                is_least = cost == told[2]
                many += is_least
                self.assertIs(shows_cheapest(catalog, orders, ("plan", sends, cost, told[3])), is_least)
                self.assertIs(shows_cheapest(catalog, orders, ("plan", sends, told[2], told[3])), is_least)
                self.assertIs(shows_cheapest(catalog, orders, ("plan", sends, cost + 1, told[3])), False)
                self.assertIs(shows_cheapest(catalog, orders, ("cut", sends)), False)
        self.assertGreater(many, 300)

    def test_all_small_prices_are_judged_as_the_point_says(self):
        right = 0
        for catalog, orders in small_cases(12, 120, supplies=2):
            told = cheapest(catalog, orders)
            wishes = checks.wishes_of(orders)
            if told[0] == "cut" or len(wishes) > 2:
                continue
            for numbers in itertools.product(range(-1, 5), repeat=len(catalog[4]) + len(wishes)):
                prices = (numbers[:len(catalog[4])], numbers[len(catalog[4]):])
                keeps = checks.are_prices(catalog, orders, told[1], prices)
                right += keeps
                self.assertIs(shows_cheapest(catalog, orders, told[:3] + (prices,)), keeps)
        self.assertGreater(right, 50)

    def test_cuts(self):
        orders = (("o", "ra", ((("tea",), 11),), 3, 1), ("p", "rb", ((("tea",), 1),), 3, 1))
        self.shown(("cut", (("o", 0),)), ("cut", (("o", 0), ("p", 0))), ("cut", (("p", 0), ("o", 0))), orders=orders)
        self.not_shown(("cut", (("p", 0),)), ("cut", (("o", 0), ("o", 0))), ("cut", ()), ("cut", (("o", 0),), 0),
                       ("cut", (("o", False),)), ("cut", [("o", 0)]), ("cut",), ("plan",), ("Cut", (("o", 0),)),
                       (True, (("o", 0),)), ["cut", (("o", 0),)], ("plan", ()),
                       ("cut", (("o", 0),), 7, ((0, 0, 0), (0, 0))), orders=orders)
        self.not_shown(("cut", (("o", 0),)), ("cut", ()))

    def test_other_values(self):
        self.not_shown(*ODD_VALUES)
        self.not_shown(TOLD[:3], TOLD[:2], list(TOLD), TOLD + (1,), ("cut",) + TOLD[1:], ("Plan",) + TOLD[1:],
                       (True,) + TOLD[1:], (None,) + TOLD[1:], {"plan": TOLD})
        for value in ODD_VALUES:
            for at in range(4):
                self.not_shown(replaced(TOLD, at, value))
            self.not_shown(replaced(TOLD, 3, (value, (5,))), replaced(TOLD, 3, ((3, 0, 0), value)),
                           replaced(TOLD, 3, ((3, 0, 0), (value,))), ("cut", value))


if __name__ == "__main__":
    unittest.main()
