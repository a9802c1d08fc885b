"""Days on which sends go and come (points 13 and 14, surehouse/parcels.py)."""

import copy
import itertools
import random
import unittest

import checks
from draws import small_cases
from samples import ODD_VALUES, letters, replaced
from surehouse import parcels
from surehouse.catalogs import is_catalog
from surehouse.errors import BadCatalog, BadOrder, BadParcel
from surehouse.parcels import arrivals, come, left_after, sheet, windows
from surehouse.promises import can_keep

SHOP = (
    ("east", "west"),
    ("ra", "rb"),
    ("tea", "cup"),
    (("east", "ra", 1, 3, 2), ("west", "ra", 2, 2, 5), ("east", "rb", 0, 9, 0)),
    (("s", "east", "tea", 2, 5), ("t", "west", "tea", 0, 4), ("u", "east", "cup", 5, 3)),
)
ORDERS = (("o", "ra", ((("tea",), 4), (("tea", "cup"), 3)), 9, 1), ("p", "rb", ((("tea",), 2),), 12, 1))
SENDS = (("p", 0, "s", 2), ("o", 0, "s", 2), ("o", 0, "t", 2), ("o", 1, "t", 2), ("o", 1, "u", 1))
WINDOWS = ((2, 3), (2, 6), (0, 7), (0, 7), (5, 6))
DAYS = (3, 2, 7, 7, 5)
SPANS = (9, 1, 2, 2, 3)


def calls(sends, days=DAYS, spans=SPANS):
    """A call of each function with these."""
    return [(windows, (SHOP, ORDERS, sends)), (arrivals, (SHOP, ORDERS, sends, days)),
            (sheet, (SHOP, ORDERS, sends, days)), (left_after, (SHOP, ORDERS, sends)),
            (come, (SHOP, ORDERS, sends, days, spans))]


class ParcelsTest(unittest.TestCase):

    def test_defined_in_their_file(self):
        for function in (parcels.windows, parcels.arrivals, parcels.sheet, parcels.left_after, parcels.come):
            self.assertEqual(function.__module__, "surehouse.parcels")

    def test_windows(self):
        self.assertTrue(checks.is_plan(SHOP, ORDERS, SENDS))
        self.assertEqual(windows(SHOP, ORDERS, SENDS), WINDOWS)
        self.assertEqual(windows(SHOP, ORDERS, SENDS[::-1]), WINDOWS[::-1])
        self.assertEqual(windows(SHOP, (), ()), ())

    def test_a_window_of_one_day(self):
        orders = (("o", "ra", ((("tea",), 5),), 5, 1),)
        sends = (("o", 0, "s", 5),)
        self.assertEqual(windows(SHOP, orders, sends), ((2, 2),))
        self.assertEqual(come(SHOP, orders, sends, (2,), (3,)), (("o", 5, True),))

    def test_arrivals(self):
        self.assertEqual(arrivals(SHOP, ORDERS, SENDS, DAYS), ((3, 12), (3, 5), (9, 9), (9, 9), (6, 8)))
        self.assertEqual(arrivals(SHOP, ORDERS, SENDS, tuple([first for first, _ in WINDOWS])),
                         ((2, 11), (3, 5), (2, 2), (2, 2), (6, 8)))
        self.assertEqual(arrivals(SHOP, (), (), ()), ())

    def test_sheet(self):
        self.assertEqual(sheet(SHOP, ORDERS, SENDS, DAYS), (
            (2, "east", "ra", "s", 2), (3, "east", "rb", "s", 2), (5, "east", "ra", "u", 1), (7, "west", "ra", "t", 4)))
        self.assertEqual(sheet(SHOP, (), (), ()), ())

    def test_what_goes_together_in_the_sheet(self):
        # Of one day, region and supply together, not of two days, regions or supplies.
        self.assertEqual(sheet(SHOP, ORDERS, SENDS, (2, 2, 4, 7, 5)), (
            (2, "east", "ra", "s", 2), (2, "east", "rb", "s", 2), (4, "west", "ra", "t", 2), (5, "east", "ra", "u", 1),
            (7, "west", "ra", "t", 2)))
        self.assertEqual(sheet(SHOP, ORDERS, SENDS, (3, 5, 0, 0, 5)), (
            (0, "west", "ra", "t", 4), (3, "east", "rb", "s", 2), (5, "east", "ra", "s", 2), (5, "east", "ra", "u", 1)))

    def test_two_orders_together_in_the_sheet(self):
        orders = (("o", "ra", ((("tea",), 1),), 9, 1), ("p", "ra", ((("tea",), 2),), 7, 1))
        sends = (("o", 0, "t", 1), ("p", 0, "t", 2))
        self.assertEqual(sheet(SHOP, orders, sends, (5, 5)), ((5, "west", "ra", "t", 3),))
        self.assertEqual(sheet(SHOP, orders, sends, (5, 4)), ((4, "west", "ra", "t", 2), (5, "west", "ra", "t", 1)))

    def test_the_sheet_is_ascending_by_numbers(self):
        orders = (("o", "ra", ((("tea",), 1),), 20, 1), ("p", "ra", ((("tea",), 2),), 20, 1))
        self.assertEqual(sheet(SHOP, orders, (("o", 0, "t", 1), ("p", 0, "t", 2)), (10, 9)),
                         ((9, "west", "ra", "t", 2), (10, "west", "ra", "t", 1)))

    def test_left_after(self):
        left = left_after(SHOP, ORDERS, SENDS)
        self.assertEqual(left, replaced(SHOP, 4, (("s", "east", "tea", 2, 1), ("t", "west", "tea", 0, 0),
                                                  ("u", "east", "cup", 5, 2))))
        self.assertTrue(is_catalog(left))
        self.assertEqual(left_after(SHOP, (), ()), SHOP)

    def test_come(self):
        self.assertEqual(come(SHOP, ORDERS, SENDS, DAYS, SPANS), (("o", 9, True), ("p", 12, True)))
        self.assertEqual(come(SHOP, ORDERS, SENDS, (2, 2, 0, 0, 5), (0, 1, 2, 2, 1)), (("o", 6, True), ("p", 2, True)))
        self.assertEqual(come(SHOP, (), (), (), ()), ())

    def test_days_within_the_window_and_one_beyond(self):
        for at, (first, last) in enumerate(WINDOWS):
            for day in range(first - 1, last + 2):
                days = replaced(DAYS, at, day)
                for function, arguments in [calls(SENDS, days)[place] for place in (1, 2, 4)]:
                    if first <= day <= last:
                        self.assertTrue(function(*arguments))
                    else:
                        self.assertRaises(BadParcel, function, *arguments)

    def test_spans_of_least_and_of_most_days_and_one_beyond(self):
        for at, (least, most) in enumerate(((0, 9), (1, 3), (2, 2), (2, 2), (1, 3))):
            for span in range(least - 1, most + 2):
                spans = replaced(SPANS, at, span)
                if least <= span <= most:
                    self.assertTrue(all(row[2] is True for row in come(SHOP, ORDERS, SENDS, DAYS, spans)))
                else:
                    self.assertRaises(BadParcel, come, SHOP, ORDERS, SENDS, DAYS, spans)

    def test_the_last_send_counts_and_comes_just_on_the_day(self):
        orders = (("o", "ra", ((("tea",), 4),), 8, 1),)
        sends = (("o", 0, "s", 2), ("o", 0, "t", 2))
        for days, spans, day in (((2, 6), (1, 2), 8), ((5, 0), (3, 2), 8), ((2, 0), (1, 2), 3), ((2, 1), (2, 2), 4)):
            self.assertEqual(come(SHOP, orders, sends, days, spans), (("o", day, True),))

    def test_sends_that_are_no_plan(self):
        wrong = [SENDS[:4], SENDS + SENDS[:1], list(SENDS), replaced(SENDS, 0, ("p", 0, "s", 3)),
                 replaced(SENDS, 0, ("p", 0, "s", 1)), replaced(SENDS, 0, ("p", 0, "t", 2)),
                 replaced(SENDS, 0, ("p", 0, "u", 2)), replaced(SENDS, 4, ("o", 1, "u", True)),
                 replaced(SENDS, 4, ("o", True, "u", 1)), replaced(SENDS, 4, ("o", 2, "u", 1)), (), (("o", 0, "s", 4),),
                 SENDS[0], None]
        for sends in wrong + list(ODD_VALUES):
            for function, arguments in calls(sends):
                with self.subTest(function=function, sends=sends):
                    self.assertRaises(BadParcel, function, *arguments)

    def test_days_and_spans_of_other_kinds(self):
        for value in ODD_VALUES + ((), list(DAYS), DAYS[:4], DAYS + (1,), (DAYS,)):
            with self.subTest(value=value):
                self.assertRaises(BadParcel, arrivals, SHOP, ORDERS, SENDS, value)
                self.assertRaises(BadParcel, sheet, SHOP, ORDERS, SENDS, value)
                self.assertRaises(BadParcel, come, SHOP, ORDERS, SENDS, value, SPANS)
                self.assertRaises(BadParcel, come, SHOP, ORDERS, SENDS, DAYS, value)
        for value in ODD_VALUES:
            if value != 0 or value is False:
                self.assertRaises(BadParcel, arrivals, SHOP, ORDERS, SENDS, replaced(DAYS, 2, value))
                self.assertRaises(BadParcel, sheet, SHOP, ORDERS, SENDS, replaced(DAYS, 2, value))
                self.assertRaises(BadParcel, come, SHOP, ORDERS, SENDS, replaced(DAYS, 2, value), SPANS)
                self.assertRaises(BadParcel, come, SHOP, ORDERS, SENDS, DAYS, replaced(SPANS, 0, value))
        self.assertRaises(BadParcel, come, SHOP, ORDERS, SENDS, DAYS, replaced(SPANS, 1, True))

    def test_the_error_is_that_of_the_leftmost(self):
        many = tuple([replaced(ORDERS[1], 0, name) for name in letters(13)])
        for function, arguments in calls(SENDS):
            for value in ODD_VALUES + (list(ORDERS), ORDERS + ORDERS, many):
                with self.subTest(function=function, value=value):
                    self.assertRaises(BadCatalog, function, value, *arguments[1:])
                    self.assertRaises(BadCatalog, function, value, None, *arguments[2:])
                    self.assertRaises(BadOrder, function, SHOP, value, *arguments[2:])
                    self.assertRaises(BadOrder, function, SHOP, value, None, *arguments[3:])

    def test_values_are_of_tuples_and_arguments_stay(self):
        for function, arguments in calls(SENDS):
            before = copy.deepcopy(arguments)
            found = function(*arguments)
            self.assertEqual(found, function(*arguments))
            self.assertEqual(arguments, before)
            self.assertTrue(all(type(row) is tuple for row in (found,) + found))


class DrawnTest(unittest.TestCase):

    def test_every_choice_of_days_and_spans_comes_in_time(self):
        draw = random.Random(14)
        choices = 0
        for catalog, orders in small_cases(14, 500, slow=2):
            plans = checks.all_plans(catalog, orders)
            if not plans:
                continue
            for sends in (can_keep(catalog, orders)[1], draw.choice(plans)):
                spaces = windows(catalog, orders, sends)
                lanes = [checks.lane_between(catalog, checks.supply_of(catalog, send[2])[1],
                                             checks.wish_of(orders, send[:2])[0][1]) for send in sends]
                all_days = list(itertools.product(*[range(first, last + 1) for first, last in spaces]))
                all_spans = list(itertools.product(*[range(lane[2], lane[3] + 1) for lane in lanes]))
                for days in draw.sample(all_days, min(12, len(all_days))):
                    for spans in draw.sample(all_spans, min(12, len(all_spans))):
                        self.in_time(catalog, orders, sends, days, spans)
                        choices += 1
        self.assertGreater(choices, 3000)

    def in_time(self, catalog, orders, sends, days, spans):
        """Each order comes on the day of its last send, which is in time and as arrivals tell."""
        told = come(catalog, orders, sends, days, spans)
        self.assertEqual([row[0] for row in told], [order[0] for order in orders])
        comes = [day + span for day, span in zip(days, spans)]
        for order, (name, day, is_in_time) in zip(orders, told):
            self.assertEqual(day, max(one for one, send in zip(comes, sends) if send[0] == name))
            self.assertIs(is_in_time, True)
            self.assertLessEqual(day, order[3])
        for day, (first, last) in zip(comes, arrivals(catalog, orders, sends, days)):
            self.assertIn(day, range(first, last + 1))

    def test_windows_sheet_and_rest_as_the_point_says(self):
        draw = random.Random(15)
        for catalog, orders in small_cases(15, 600):
            for sends in checks.all_plans(catalog, orders)[:3]:
                spaces = windows(catalog, orders, sends)
                for send, (first, last) in zip(sends, spaces):
                    order, supply = checks.wish_of(orders, send[:2])[0], checks.supply_of(catalog, send[2])
                    fitting = [day for day in range(-9, 70) if day >= supply[3]
                               and day + checks.lane_between(catalog, supply[1], order[1])[3] <= order[3]]
                    self.assertEqual((first, last), (fitting[0], fitting[-1]))
                days = tuple([draw.randint(first, last) for first, last in spaces])
                rows = sheet(catalog, orders, sends, days)
                self.assertEqual(rows, tuple(sorted(rows)))
                self.assertEqual(len({row[:4] for row in rows}), len(rows))
                for day, house, region, supply, count in rows:
                    self.assertEqual(checks.supply_of(catalog, supply)[1], house)
                    self.assertEqual(count, sum(send[3] for send, one in zip(sends, days) if one == day
                                                and send[2] == supply
                                                and checks.wish_of(orders, send[:2])[0][1] == region))
                self.assertEqual(sum(row[4] for row in rows), sum(send[3] for send in sends))
                left = left_after(catalog, orders, sends)
                self.assertEqual(left[:4], catalog[:4])
                for supply, rest in zip(catalog[4], left[4]):
                    sent = sum(send[3] for send in sends if send[2] == supply[0])
                    self.assertEqual(rest, supply[:4] + (supply[4] - sent,))


if __name__ == "__main__":
    unittest.main()
