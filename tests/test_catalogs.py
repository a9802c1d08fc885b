"""Names, catalogs, wishes and orders (points 1 to 3, surehouse/catalogs.py)."""

import unittest

from samples import CATALOG, ODD_VALUES, letters, replaced
from surehouse import catalogs
from surehouse.catalogs import check_catalog, check_order, check_orders, is_catalog, is_name
from surehouse.errors import BadCatalog, BadOrder

ORDER = ("o", "ra", ((("tea",), 3), (("cup", "tea", "pot"), 99)), 5, 1)
LANE = CATALOG[3][0]
SUPPLY = CATALOG[4][0]
GOOD_NAMES = ("a", "z", "a0", "z9", "abcdefgh", "a2345678", "s")
BAD_NAMES = ("", "0", "9a", "1abc", "abcdefghi", "A", "aB", "a_b", "a b", " a", "a ", "a\n", "-a", "a.b",
             "\u00e9", "a\u00e9", "a\u0661", "\u00aa", "`", "{", "a{", "a/", "a:", b"a", ("a",))


def with_lanes(*lanes):
    return replaced(CATALOG, 3, lanes)


def with_supplies(*supplies):
    return replaced(CATALOG, 4, supplies)


class CatalogCase(unittest.TestCase):

    def good(self, *values):
        for value in values:
            with self.subTest(value=value):
                self.assertIs(is_catalog(value), True)
                self.assertIsNone(check_catalog(value))

    def bad(self, *values):
        for value in values:
            with self.subTest(value=value):
                self.assertIs(is_catalog(value), False)
                self.assertRaises(BadCatalog, check_catalog, value)


class NameTest(unittest.TestCase):

    def test_names(self):
        for name in GOOD_NAMES:
            with self.subTest(name=name):
                self.assertIs(is_name(name), True)

    def test_no_names(self):
        for name in BAD_NAMES + ODD_VALUES:
            with self.subTest(name=name):
                self.assertIs(is_name(name), False)


class CatalogTest(CatalogCase):

    def test_defined_in_its_file(self):
        self.assertEqual(catalogs.is_catalog.__module__, "surehouse.catalogs")

    def test_ordinary(self):
        self.good(CATALOG, (("east",), ("ra",), ("tea",), (), ()))

    def test_one_name_may_stand_for_things_of_several_kinds(self):
        self.good((("a",), ("a",), ("a",), (("a", "a", 0, 0, 0),), (("a", "a", "a", 0, 0),)))

    def test_values_of_every_other_kind(self):
        self.bad(*ODD_VALUES)
        for place in range(5):
            self.bad(*[replaced(CATALOG, place, value) for value in ODD_VALUES])

    def test_five_parts_in_a_tuple(self):
        self.bad(CATALOG[:4], CATALOG + ((),), list(CATALOG))
        for place in range(5):
            self.bad(replaced(CATALOG, place, list(CATALOG[place])))

    def test_one_to_five_of_each_kind(self):
        for place in range(3):
            base = ((("a",),) * 3) + ((), ())
            self.good(*[replaced(base, place, letters(many)) for many in range(1, 6)])
            self.bad(replaced(base, place, ()), replaced(base, place, letters(6)))

    def test_houses_regions_and_items_are_unlike_names(self):
        base = ((("a",),) * 3) + ((), ())
        for place in range(3):
            self.good(*[replaced(base, place, ("b", name)) for name in GOOD_NAMES])
            self.bad(*[replaced(base, place, (name,)) for name in BAD_NAMES])
            self.bad(*[replaced(base, place, ("b", name)) for name in BAD_NAMES])
            self.bad(*[replaced(base, place, (name,)) for name in ODD_VALUES])
            self.bad(replaced(base, place, ("b", "b")), replaced(base, place, ("b", "c", "b")))

    def test_at_most_twenty_lanes(self):
        pairs = [(house, region) for house in letters(5) for region in letters(5)]
        lanes = tuple([pair + (0, 0, 0) for pair in pairs])
        base = (letters(5), letters(5), ("a",), (), ())
        self.good(replaced(base, 3, lanes[:19]), replaced(base, 3, lanes[:20]), replaced(base, 3, lanes[5:]))
        self.bad(replaced(base, 3, lanes[:21]), replaced(base, 3, lanes))

    def test_no_two_lanes_of_one_house_and_region(self):
        self.good(with_lanes(("east", "ra", 0, 1, 2), ("east", "rb", 0, 1, 2), ("west", "ra", 0, 1, 2)))
        self.bad(with_lanes(LANE, LANE), with_lanes(LANE, ("east", "ra", 0, 0, 0)),
                 with_lanes(LANE, ("west", "ra", 0, 1, 2), ("east", "ra", 0, 0, 0)))

    def test_days_of_a_lane(self):
        days = [(least, most) for least in range(-1, 11) for most in range(-1, 11)]
        for least, most in days:
            value = with_lanes(("east", "ra", least, most, 5))
            if 0 <= least <= most <= 9:
                self.good(value)
            else:
                self.bad(value)

    def test_price_of_a_lane(self):
        self.good(*[with_lanes(replaced(LANE, 4, price)) for price in (0, 1, 98, 99)])
        self.bad(*[with_lanes(replaced(LANE, 4, price)) for price in (-1, 100)])

    def test_a_lane_leads_from_a_house_to_a_region(self):
        self.bad(with_lanes(("ra", "ra", 1, 2, 5)), with_lanes(("east", "west", 1, 2, 5)),
                 with_lanes(("tea", "ra", 1, 2, 5)), with_lanes(("ra", "east", 1, 2, 5)))

    def test_lanes_of_other_kinds(self):
        self.bad(with_lanes(LANE[:4]), with_lanes(LANE + (1,)), with_lanes(list(LANE)))
        self.bad(*[with_lanes(value) for value in ODD_VALUES])
        for place in (0, 1, 2, 3, 4):
            odd = [value for value in ODD_VALUES if not (value == 0 and value is not False and place in (2, 4))]
            self.bad(*[with_lanes(replaced(LANE, place, value)) for value in odd])
            self.bad(with_lanes(replaced(LANE, place, "1")), with_lanes(replaced(LANE, place, (1,))))
        self.bad(with_lanes(("east", "ra", True, 2, 5)), with_lanes(("east", "ra", 1, True, 5)),
                 with_lanes(("east", "ra", 1, 2, True)), with_lanes(("east", "ra", False, 2, 5)),
                 with_lanes(("east", "ra", 0, False, 5)), with_lanes(("east", "ra", 1, 2, False)))

    def test_at_most_fourteen_supplies_of_unlike_names(self):
        supplies = [(name, "east", "tea", 0, 0) for name in letters(15)]
        self.good(with_supplies(*supplies[:13]), with_supplies(*supplies[:14]), with_supplies())
        self.bad(with_supplies(*supplies), with_supplies(SUPPLY, SUPPLY),
                 with_supplies(SUPPLY, supplies[0], ("s", "west", "cup", 1, 1)))

    def test_day_and_count_of_a_supply(self):
        self.good(*[with_supplies(replaced(SUPPLY, 3, day)) for day in (0, 1, 9, 59, 60)])
        self.bad(*[with_supplies(replaced(SUPPLY, 3, day)) for day in (-1, 61)])
        self.good(*[with_supplies(replaced(SUPPLY, 4, count)) for count in (0, 1, 98, 99)])
        self.bad(*[with_supplies(replaced(SUPPLY, 4, count)) for count in (-1, 100)])

    def test_a_supply_is_of_an_item_in_a_house(self):
        self.good(*[with_supplies(replaced(SUPPLY, 0, name)) for name in GOOD_NAMES])
        self.bad(*[with_supplies(replaced(SUPPLY, 0, name)) for name in BAD_NAMES])
        self.bad(with_supplies(replaced(SUPPLY, 1, "ra")), with_supplies(replaced(SUPPLY, 1, "north")),
                 with_supplies(replaced(SUPPLY, 2, "rice")), with_supplies(replaced(SUPPLY, 2, "east")))

    def test_supplies_of_other_kinds(self):
        self.bad(with_supplies(SUPPLY[:4]), with_supplies(SUPPLY + (1,)), with_supplies(list(SUPPLY)))
        self.bad(*[with_supplies(value) for value in ODD_VALUES])
        for place in range(5):
            odd = [value for value in ODD_VALUES if not (value == 0 and value is not False and place > 2)]
            self.bad(*[with_supplies(replaced(SUPPLY, place, value)) for value in odd])
        for place in (3, 4):
            self.bad(*[with_supplies(replaced(SUPPLY, place, value)) for value in (True, False, "1", (1,), [1])])

    def test_what_is_asked_is_not_changed(self):
        value = (["east"], {"ra": [1]}, ("tea",), [[]], ())
        self.bad(value)
        self.assertEqual(value, (["east"], {"ra": [1]}, ("tea",), [[]], ()))


class OrderTest(unittest.TestCase):

    def good(self, *values):
        for value in values:
            with self.subTest(value=value):
                self.assertIsNone(check_order(CATALOG, value))
                self.assertIsNone(check_orders(CATALOG, (value,)))

    def bad(self, *values):
        for value in values:
            with self.subTest(value=value):
                self.assertRaises(BadOrder, check_order, CATALOG, value)
                self.assertRaises(BadOrder, check_orders, CATALOG, (value,))

    def wishing(self, *wishes):
        return replaced(ORDER, 2, wishes)

    def test_ordinary(self):
        self.good(ORDER, ("east", "rb", ((("mat",), 1),), 0, 0))

    def test_name_and_region(self):
        self.good(*[replaced(ORDER, 0, name) for name in GOOD_NAMES])
        self.bad(*[replaced(ORDER, 0, name) for name in BAD_NAMES])
        self.bad(replaced(ORDER, 1, "rc"), replaced(ORDER, 1, "east"), replaced(ORDER, 1, "tea"))

    def test_one_to_three_wishes(self):
        wish = (("tea",), 1)
        self.good(*[self.wishing(*([wish] * many)) for many in (1, 2, 3)])
        self.bad(self.wishing(), self.wishing(*([wish] * 4)), replaced(ORDER, 2, [wish]))

    def test_one_to_three_unlike_items_of_a_wish(self):
        items = CATALOG[2]
        self.good(*[self.wishing((items[:many], 1)) for many in (1, 2, 3)])
        self.good(self.wishing((("jar", "tea"), 1)))
        self.bad(self.wishing(((), 1)), self.wishing((items[:4], 1)), self.wishing((["tea"], 1)),
                 self.wishing(("tea", 1)), self.wishing((("tea", "tea"), 1)), self.wishing((("rice",), 1)),
                 self.wishing((("tea", "cup", "tea"), 1)), self.wishing((("tea", "east"), 1)))

    def test_count_of_a_wish(self):
        self.good(*[self.wishing((("tea",), count)) for count in (1, 9, 98, 99)])
        self.bad(*[self.wishing((("tea",), count)) for count in (-1, 0, 100, True, False, "1", None, (1,))])

    def test_by_and_worth(self):
        self.good(*[replaced(ORDER, 3, by) for by in (0, 1, 9, 59, 60)])
        self.bad(*[replaced(ORDER, 3, by) for by in (-1, 61, True, False, "1")])
        self.good(*[replaced(ORDER, 4, worth) for worth in (0, 1, 998, 999)])
        self.bad(*[replaced(ORDER, 4, worth) for worth in (-1, 1000, True, False, "1")])

    def test_values_of_every_other_kind(self):
        self.bad(*ODD_VALUES)
        self.bad(ORDER[:4], ORDER + (1,), list(ORDER))
        for place in range(5):
            odd = [value for value in ODD_VALUES if not (value == 0 and value is not False and place > 2)]
            self.bad(*[replaced(ORDER, place, value) for value in odd])
        self.bad(*[self.wishing(value) for value in ODD_VALUES])
        self.bad(*[self.wishing((value, 1)) for value in ODD_VALUES])
        self.bad(*[self.wishing((("tea",), value)) for value in ODD_VALUES])
        self.bad(self.wishing((("tea",),)), self.wishing((("tea",), 1, 1)), self.wishing([("tea",), 1]))


class OrdersTest(unittest.TestCase):

    def many(self, count):
        return tuple([replaced(ORDER, 0, name) for name in letters(count)])

    def test_at_most_twelve_if_nothing_else_is_said(self):
        for count in (0, 1, 11, 12):
            self.assertIsNone(check_orders(CATALOG, self.many(count)))
        self.assertRaises(BadOrder, check_orders, CATALOG, self.many(13))

    def test_at_most_as_many_as_is_said(self):
        for count in (4, 6):
            self.assertIsNone(check_orders(CATALOG, self.many(count), count))
            self.assertRaises(BadOrder, check_orders, CATALOG, self.many(count + 1), count)

    def test_unlike_names(self):
        self.assertRaises(BadOrder, check_orders, CATALOG, (ORDER, ORDER))
        value = self.many(3) + (replaced(ORDER, 0, "a"),)
        self.assertRaises(BadOrder, check_orders, CATALOG, value)

    def test_a_bad_order_among_good_ones(self):
        value = self.many(3) + (replaced(ORDER, 3, 61),)
        self.assertRaises(BadOrder, check_orders, CATALOG, value)

    def test_values_of_every_other_kind(self):
        for value in ODD_VALUES + (list(self.many(2)), ORDER):
            with self.subTest(value=value):
                self.assertRaises(BadOrder, check_orders, CATALOG, value)


if __name__ == "__main__":
    unittest.main()
