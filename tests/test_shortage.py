"""The best lot of orders, lost things and closed houses (points 11 and 12, surehouse/shortage.py)."""

import copy
import itertools
import random
import unittest

import checks
from draws import NAMES, drawn_catalog, drawn_order
from samples import ODD_VALUES, letters, replaced
from surehouse import shortage
from surehouse.catalogs import is_catalog
from surehouse.errors import BadCatalog, BadName, BadNumber, BadOrder
from surehouse.promises import can_keep
from surehouse.shortage import best_kept, closed, if_closed, shows_best_kept, without

SHOP = (
    ("east", "west", "north"),
    ("ra", "rb"),
    ("tea", "cup"),
    (("east", "ra", 0, 0, 2), ("west", "ra", 0, 0, 5), ("east", "rb", 0, 0, 1)),
    (("s", "east", "tea", 0, 3), ("t", "west", "tea", 0, 4), ("u", "west", "cup", 0, 5), ("v", "east", "tea", 9, 2)),
)


def tea(name, count, worth, by=4):
    return (name, "ra", ((("tea",), count),), by, worth)


def drawn(seed, many, orders=4):
    """So many pairs (catalog, orders) with at most so many orders."""
    draw = random.Random(seed)
    rows = []
    for _ in range(many):
        catalog = drawn_catalog(draw, houses=3, supplies=4, count=3)
        rows.append((catalog, tuple([drawn_order(draw, catalog, name, wishes=1, last=5)
                                     for name in NAMES[:draw.randint(0, orders)]])))
    return rows


def ranked(orders):
    """All lots of orders, in the order of point 11."""
    places = range(len(orders))
    rows = [row for many in range(len(orders) + 1) for row in itertools.combinations(places, many)]
    rows.sort()
    rows.sort(key=lambda row: -sum(orders[place][4] for place in row))
    return [tuple([orders[place] for place in row]) for row in rows]


class BestKeptTest(unittest.TestCase):

    def best(self, *orders):
        """What best_kept tells is as the point says; the names and the worth."""
        names, worth, tolds = told = best_kept(SHOP, orders)
        self.assertIs(shows_best_kept(SHOP, orders, told), True)
        lots = ranked(orders)
        for lot, (word, rows) in zip(lots, tolds[:-1]):
            self.assertEqual(word, "cut")
            self.assertTrue(checks.is_cut(SHOP, lot, rows))
        best = lots[len(tolds) - 1]
        self.assertEqual(tolds[-1][0], "plan")
        self.assertTrue(checks.is_plan(SHOP, best, tolds[-1][1]))
        self.assertEqual(names, tuple([order[0] for order in best]))
        self.assertEqual(worth, sum(order[4] for order in best))
        return names, worth, len(tolds)

    def test_defined_in_their_file(self):
        for function in (shortage.best_kept, shortage.shows_best_kept, shortage.without, shortage.closed,
                         shortage.if_closed):
            self.assertEqual(function.__module__, "surehouse.shortage")

    def test_all_some_and_none_are_kept(self):
        self.assertEqual(self.best(tea("a", 3, 5), tea("b", 4, 5)), (("a", "b"), 10, 1))
        self.assertEqual(self.best(tea("a", 4, 5), tea("b", 4, 6)), (("b",), 6, 2))
        self.assertEqual(self.best(tea("a", 5, 9), tea("b", 4, 5), tea("c", 3, 5)), (("b", "c"), 10, 4))
        self.assertEqual(self.best(tea("a", 8, 5), tea("b", 9, 5)), ((), 0, 4))
        self.assertEqual(self.best(), ((), 0, 1))

    def test_one_order_of_great_worth_ahead_of_many(self):
        self.assertEqual(self.best(tea("a", 1, 2), tea("b", 1, 2), tea("c", 7, 5), tea("d", 1, 0))[:2], (("c",), 5))

    def test_lots_of_the_same_worth_as_tuples_of_places(self):
        self.assertEqual(self.best(tea("a", 4, 5), tea("b", 4, 5)), (("a",), 5, 2))
        self.assertEqual(self.best(tea("b", 4, 5), tea("a", 4, 5)), (("b",), 5, 2))
        # Of the lots that can be kept, (0, 1) and (2,) are worth most; then (0,) and (1, 2).
        self.assertEqual(self.best(tea("a", 2, 3), tea("b", 2, 3), tea("c", 7, 6))[:2], (("a", "b"), 6))
        self.assertEqual(self.best(tea("c", 7, 6), tea("a", 2, 3), tea("b", 2, 3))[:2], (("c",), 6))

    def test_orders_of_worth_nought(self):
        # The lot without them is a shorter tuple of places, or stands behind one that begins with less.
        self.assertEqual(self.best(tea("a", 1, 0)), ((), 0, 1))
        self.assertEqual(self.best(tea("a", 1, 0), tea("b", 1, 0)), ((), 0, 1))
        self.assertEqual(self.best(tea("a", 1, 0), tea("b", 1, 4)), (("a", "b"), 4, 1))
        self.assertEqual(self.best(tea("b", 1, 4), tea("a", 1, 0)), (("b",), 4, 1))
        self.assertEqual(self.best(tea("a", 7, 0), tea("b", 1, 4)), (("b",), 4, 2))

    def test_six_orders_and_seven(self):
        orders = tuple([tea(name, 2, 1) for name in letters(7)])
        self.assertEqual(self.best(*orders[:6])[:2], (("a", "b", "c"), 3))
        great = tuple([tea(name, 99, 1) for name in letters(6)])
        self.assertEqual(self.best(*great), ((), 0, 64))
        for function in (best_kept, if_closed):
            self.assertRaises(BadOrder, function, SHOP, orders)
        self.assertRaises(BadOrder, shows_best_kept, SHOP, orders, None)

    def test_six_orders_of_three_wishes(self):
        items = ("tea", "cup", "pot", "mat", "jar")
        houses = ("v", "w", "x", "y", "z")
        lanes = tuple([(house, "ra", 0, 1, 1) for house in houses])
        rows = tuple([("s%d" % place, houses[place % 5], items[place % 4], 0, 9) for place in range(14)])
        catalog = (houses, ("ra",), items, lanes, rows)
        orders = tuple([(name, "ra", ((items[:2], 19), (items[1:4], 19), (("jar", "tea"), 19)), 9, place)
                        for place, name in enumerate(letters(6))])
        self.assertIs(shows_best_kept(catalog, orders, best_kept(catalog, orders)), True)
        self.assertEqual([row[0] for row in if_closed(catalog, orders)], list(houses))

    def test_against_a_search_through_all_lots(self):
        kept = {}
        for catalog, orders in drawn(110, 250):
            names, worth, tolds = told = best_kept(catalog, orders)
            lots = ranked(orders)
            first = [at for at, lot in enumerate(lots) if checks.all_plans(catalog, lot)][0]
            self.assertEqual(len(tolds), first + 1)
            self.assertEqual(names, tuple([order[0] for order in lots[first]]))
            self.assertEqual(worth, sum(order[4] for order in lots[first]))
            for lot, (word, rows) in zip(lots, tolds):
                check = checks.is_plan if lot == lots[first] else checks.is_cut
                self.assertTrue(check(catalog, lot, rows))
            self.assertIs(shows_best_kept(catalog, orders, told), True)
            kept[len(names), len(orders)] = True
        self.assertGreater(len(kept), 8)

    def test_values_are_of_tuples_and_arguments_stay(self):
        arguments = (SHOP, (tea("a", 5, 9), tea("b", 4, 5), tea("c", 3, 5)))
        before = copy.deepcopy(arguments)
        for function in (best_kept, if_closed):
            found = function(*arguments)
            self.assertEqual(found, function(*arguments))
            self.assertEqual(arguments, before)
            self.assertIs(type(found), tuple)
        found = best_kept(*arguments)
        for row in (found[0], found[2], found[2][0], found[2][0][1]):
            self.assertIs(type(row), tuple)
        self.assertIs(type(found[1]), int)

    def test_errors(self):
        for value in ODD_VALUES + ([tea("a", 1, 1)], tea("a", 1, 1), (tea("a", 1, 1), tea("a", 1, 1))):
            with self.subTest(value=value):
                for function in (best_kept, if_closed):
                    self.assertRaises(BadOrder, function, SHOP, value)
                    self.assertRaises(BadCatalog, function, (), value)
                    self.assertRaises(BadCatalog, function, value, ())
                self.assertRaises(BadOrder, shows_best_kept, SHOP, value, None)
                self.assertRaises(BadCatalog, shows_best_kept, value, value, value)


class ShowsBestKeptTest(unittest.TestCase):

    ORDERS = (tea("a", 5, 9), tea("b", 4, 5), tea("c", 3, 5))
    PLAN = ("plan", (("b", 0, "t", 4), ("c", 0, "s", 3)))
    CUTS = (("cut", (("a", 0), ("b", 0), ("c", 0))), ("cut", (("a", 0), ("b", 0))), ("cut", (("a", 0), ("c", 0))))
    TOLD = (("b", "c"), 10, CUTS + (PLAN,))

    def shown(self, *values, orders=ORDERS):
        for value in values:
            with self.subTest(value=value):
                self.assertIs(shows_best_kept(SHOP, orders, value), True)

    def not_shown(self, *values, orders=ORDERS):
        for value in values:
            with self.subTest(value=value):
                self.assertIs(shows_best_kept(SHOP, orders, value), False)

    def test_other_plans_and_cuts(self):
        self.shown(self.TOLD)
        self.shown(replaced(self.TOLD, 2, (("cut", (("b", 0), ("a", 0))),) + self.CUTS[1:] + (self.PLAN,)))
        self.shown(replaced(self.TOLD, 2, self.CUTS + (("plan", self.PLAN[1][::-1]),)))
        other = ("plan", (("b", 0, "t", 3), ("b", 0, "s", 1), ("c", 0, "t", 1), ("c", 0, "s", 2)))
        self.shown(replaced(self.TOLD, 2, self.CUTS + (other,)))

    def test_all_plans_and_cuts_of_drawn_ones(self):
        draw = random.Random(111)
        for catalog, orders in drawn(112, 120, orders=3):
            names, worth, tolds = best_kept(catalog, orders)
            lots = ranked(orders)[:len(tolds)]
            for _ in range(4):
                others = tuple([("cut", draw.choice(checks.all_cuts(catalog, lot))) for lot in lots[:-1]])
                others += (("plan", draw.choice(checks.all_plans(catalog, lots[-1]))),)
                self.assertIs(shows_best_kept(catalog, orders, (names, worth, others)), True)
                self.assertIs(shows_best_kept(catalog, orders, (names, worth + 1, others)), False)
                self.assertIs(shows_best_kept(catalog, orders, (names, worth, others[1:])), False)
                self.assertIs(shows_best_kept(catalog, orders, (names, worth, others[:-1])), False)

    def test_a_told_too_few_or_too_many(self):
        tolds = self.TOLD[2]
        self.not_shown(*[replaced(self.TOLD, 2, rows) for rows in (
            tolds[1:], tolds[:3], tolds[:1] + tolds[2:], (), tolds[-1:], tolds[:3] + tolds[2:], tolds + tolds[-1:],
            tolds + (("cut", (("a", 0),)),), tolds + (("plan", (("a", 0, "s", 3), ("a", 0, "t", 2))),),
            tolds * 3, list(tolds), tolds[::-1])])

    def test_another_lot_of_the_same_worth(self):
        orders = (tea("a", 4, 5), tea("b", 4, 5))
        cut = ("cut", (("a", 0), ("b", 0)))
        plans = [("plan", ((name, 0, "t", 4),)) for name in "ab"]
        self.shown((("a",), 5, (cut, plans[0])), orders=orders)
        self.not_shown((("b",), 5, (cut, plans[1])), (("b",), 5, (cut, plans[0])), (("a",), 5, (cut, plans[1])),
                       (("b",), 5, (cut, plans[0], plans[1])), ((), 0, (cut, ("plan", ()))), orders=orders)

    def test_names_worth_and_tolds_of_other_kinds(self):
        self.not_shown(*[replaced(self.TOLD, 0, names) for names in (
            ("c", "b"), ["b", "c"], ("b",), ("b", "c", "a"), ("a", "b", "c"), "bc", None, (), ("b", None))])
        self.not_shown(*[replaced(self.TOLD, 1, worth) for worth in (9, 11, 0, -10, "10", None, True, (10,), [10])])
        for value in ODD_VALUES:
            self.not_shown(value, replaced(self.TOLD, 0, value), replaced(self.TOLD, 1, value),
                           replaced(self.TOLD, 2, value), replaced(self.TOLD, 2, replaced(self.TOLD[2], 1, value)),
                           replaced(self.TOLD, 2, replaced(self.TOLD[2], 3, value)))
        self.not_shown(list(self.TOLD), self.TOLD[:2], self.TOLD + (1,), self.TOLD[::-1])
        one = (tea("a", 1, 1),)
        self.shown((("a",), 1, (("plan", (("a", 0, "s", 1),)),)), orders=one)
        self.not_shown((("a",), True, (("plan", (("a", 0, "s", 1),)),)), orders=one)
        none = (tea("a", 9, 1),)
        self.shown(((), 0, (("cut", (("a", 0),)), ("plan", ()))), orders=none)
        self.not_shown(((), False, (("cut", (("a", 0),)), ("plan", ()))), orders=none)


class WithoutTest(unittest.TestCase):

    def counts(self, *losses):
        """What supplies have without the losses; nothing else is changed."""
        before = copy.deepcopy(SHOP)
        found = without(SHOP, losses)
        self.assertEqual(SHOP, before)
        self.assertTrue(is_catalog(found))
        self.assertEqual((found[:4], [row[:4] for row in found[4]]), (SHOP[:4], [row[:4] for row in SHOP[4]]))
        return tuple([row[4] for row in found[4]])

    def test_so_much_less(self):
        self.assertEqual(self.counts(), (3, 4, 5, 2))
        self.assertEqual(self.counts(("t", 1)), (3, 3, 5, 2))
        self.assertEqual(self.counts(("u", 4), ("s", 2)), (1, 4, 1, 2))

    def test_a_supply_named_twice(self):
        self.assertEqual(self.counts(("t", 1), ("s", 1), ("t", 2)), (2, 1, 5, 2))
        self.assertEqual(self.counts(("t", 2), ("t", 2)), (3, 0, 5, 2))
        self.assertRaises(BadNumber, without, SHOP, (("t", 2), ("t", 3)))
        self.assertRaises(BadNumber, without, SHOP, (("t", 4), ("t", 1)))

    def test_all_and_one_more_than_there_is_left(self):
        self.assertEqual(self.counts(("s", 3), ("t", 4), ("u", 5), ("v", 2)), (0, 0, 0, 0))
        for name, count in (("s", 3), ("t", 4), ("u", 5), ("v", 2)):
            self.assertRaises(BadNumber, without, SHOP, ((name, count + 1),))
            self.assertRaises(BadNumber, without, SHOP, ((name, 10 ** 30),))

    def test_nought_and_below(self):
        self.assertEqual(self.counts(("s", 0)), (3, 4, 5, 2))
        self.assertEqual(self.counts(("s", 3), ("s", 0)), (0, 4, 5, 2))
        for count in (-1, -99, -10 ** 30, True, False, None, "1", (1,), [1], {}):
            self.assertRaises(BadNumber, without, SHOP, (("s", count),))

    def test_names_of_no_supply(self):
        for name in ODD_VALUES + ((), "x", "east", "tea", ("s",), ["s"]):
            with self.subTest(name=name):
                self.assertRaises(BadName, without, SHOP, ((name, 1),))
                self.assertRaises(BadName, without, SHOP, (("s", 1), (name, 1)))

    def test_what_is_no_tuple_of_pairs(self):
        for value in ODD_VALUES + (("s", 1), [("s", 1)], (["s", 1],), (("s",),), (("s", 1, 1),), "s", {"s": 1}):
            with self.subTest(value=value):
                self.assertRaises(BadName, without, SHOP, value)
        for value in ODD_VALUES + ((), list(SHOP)):
            self.assertRaises(BadCatalog, without, value, (("s", 1),))
            self.assertRaises(BadCatalog, without, value, None)


class ClosedTest(unittest.TestCase):

    def test_all_supplies_of_a_house(self):
        before = copy.deepcopy(SHOP)
        self.assertEqual([row[4] for row in closed(SHOP, "east")[4]], [0, 4, 5, 0])
        self.assertEqual([row[4] for row in closed(SHOP, "west")[4]], [3, 0, 0, 2])
        self.assertEqual(closed(SHOP, "west")[:4], SHOP[:4])
        self.assertEqual([row[:4] for row in closed(SHOP, "west")[4]], [row[:4] for row in SHOP[4]])
        self.assertEqual(SHOP, before)

    def test_a_house_without_supplies(self):
        self.assertEqual(closed(SHOP, "north"), SHOP)

    def test_errors(self):
        for value in ODD_VALUES + ((), "south", "ra", "s", ("east",), ["east"]):
            with self.subTest(value=value):
                self.assertRaises(BadName, closed, SHOP, value)
                self.assertRaises(BadCatalog, closed, value, value)


class IfClosedTest(unittest.TestCase):

    def test_each_house_in_turn(self):
        orders = (tea("a", 3, 1), tea("b", 4, 2), tea("c", 1, 0))
        self.assertEqual(if_closed(SHOP, orders), (("east", ("b",), 2), ("west", ("a",), 1), ("north", ("a", "b"), 3)))
        self.assertEqual(if_closed(SHOP, ()), (("east", (), 0), ("west", (), 0), ("north", (), 0)))

    def test_against_the_catalog_closed_by_hand(self):
        for catalog, orders in drawn(120, 120):
            rows = []
            for house in catalog[0]:
                supplies = tuple([row[:4] + (0 if row[1] == house else row[4],) for row in catalog[4]])
                self.assertEqual(closed(catalog, house), replaced(catalog, 4, supplies))
                rows.append((house,) + best_kept(replaced(catalog, 4, supplies), orders)[:2])
            before = copy.deepcopy(catalog)
            self.assertEqual(if_closed(catalog, orders), tuple(rows))
            self.assertEqual(catalog, before)

    def test_without_a_house_no_more_is_kept(self):
        for catalog, orders in drawn(121, 60):
            worth = best_kept(catalog, orders)[1]
            self.assertTrue(all(row[2] <= worth for row in if_closed(catalog, orders)))
            for house, names, _ in if_closed(catalog, orders):
                lot = tuple([order for order in orders if order[0] in names])
                self.assertEqual(can_keep(closed(catalog, house), lot)[0], "plan")


if __name__ == "__main__":
    unittest.main()
