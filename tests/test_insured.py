"""Promises that are kept whichever house closes (points 30 and 31, surehouse/insured.py)."""

import copy
import random
import unittest

import checks
from draws import NAMES, TORN, drawn_order, insured_case, torn_case
from samples import ODD_VALUES, letters, replaced
from surehouse import insured as module
from surehouse.books import Book
from surehouse.errors import BadCatalog, BadName, BadOrder
from surehouse.insured import SureBook, insured, is_sure, mended

SHOP = (
    ("east", "west"),
    ("ra", "rb"),
    ("tea", "cup"),
    (("east", "ra", 0, 1, 2), ("west", "ra", 1, 2, 5), ("east", "rb", 0, 0, 1)),
    (("s", "east", "tea", 0, 2), ("t", "west", "tea", 1, 2), ("u", "west", "cup", 0, 5)),
)


def tea(name, count, by=4, region="ra"):
    return (name, region, ((("tea",), count),), by, 1)


def closed_by_hand(catalog, house):
    """The catalog without the supplies' things of a house."""
    return catalog[:4] + (tuple([row[:4] + (0 if row[1] == house else row[4],) for row in catalog[4]]),)


def is_dated(catalog, orders, sends):
    """Whether sends with days keep point 30 but for sureness."""
    for day, name, place, supply, count in sends:
        row = checks.supply_of(catalog, supply)
        if day < row[3] or not checks.can_serve(catalog, orders, (name, place), row, day) or count < 1:
            return False
    for row in catalog[4]:
        if sum(send[4] for send in sends if send[3] == row[0]) > row[4]:
            return False
    return all(sum(send[4] for send in sends if send[1:3] == pair) == checks.wish_of(orders, pair)[1][1]
               for pair in checks.wishes_of(orders))


def cases(seed, many, draw_one, rows=1000):
    """So many drawn cases (catalog, orders, all rows of sends with days), none with too many rows."""
    draw = random.Random(seed)
    found = []
    while len(found) < many:
        catalog, orders = draw_one(draw)
        if len(checks.things_of(orders)) <= 4:
            dated = checks.all_dated(catalog, orders)
            if len(dated) <= rows:
                found.append((catalog, orders, dated))
    return found


class InsuredTest(unittest.TestCase):

    def test_defined_in_their_file(self):
        for one in (module.insured, module.is_sure, module.mended, module.SureBook):
            self.assertEqual(one.__module__, "surehouse.insured")
        for name in ("ask", "sends", "orders"):
            self.assertIn(name, vars(SureBook))

    def test_the_example_of_the_interface(self):
        lanes = (("east", "ra", 0, 0, 2), ("west", "ra", 0, 0, 5))
        catalog = (("east", "west"), ("ra",), ("tea",), lanes,
                   (("s", "east", "tea", 0, 1), ("t", "west", "tea", 0, 1)))
        one, two = ("o", "ra", ((("tea",), 1),), 0, 1), ("o", "ra", ((("tea",), 2),), 0, 1)
        self.assertEqual([insured(catalog, (one,))[0], insured(catalog, (two,))],
                         ["sure", ("unsure", ("east", (("o", 0),)))])

    def test_sure(self):
        for orders in ((tea("a", 1),), (tea("a", 2),), (tea("a", 1), tea("b", 1)), (tea("a", 1, by=3),)):
            word, sends = insured(SHOP, orders)
            self.assertEqual(word, "sure")
            self.assertTrue(is_dated(SHOP, orders, sends))
            self.assertEqual(checks.failures(SHOP, orders, sends), [])
            self.assertIs(is_sure(SHOP, orders, sends), True)

    def test_no_orders(self):
        self.assertEqual(insured(SHOP, ()), ("sure", ()))
        self.assertIs(is_sure(SHOP, (), ()), True)
        self.assertEqual(insured(replaced(SHOP, 4, ()), ()), ("sure", ()))

    def test_unsure_without_a_house(self):
        for orders, houses in (((tea("a", 3),), ("east", "west")), ((tea("a", 1, by=2),), ("east",)),
                               ((tea("a", 1, region="rb"),), ("east",)), ((tea("a", 5),), ("east", "west"))):
            word, (house, wishes) = insured(SHOP, orders)
            self.assertEqual(word, "unsure")
            self.assertIn(house, houses)
            self.assertTrue(checks.is_cut(closed_by_hand(SHOP, house), orders, wishes))

    def test_a_catalog_of_one_house(self):
        one = (("east",), ("ra",), ("tea",), (("east", "ra", 0, 1, 2),), (("s", "east", "tea", 0, 9),))
        self.assertEqual(insured(one, (tea("a", 1),)), ("unsure", ("east", (("a", 0),))))

    def test_torn_between_two_houses(self):
        catalog, orders = TORN
        self.assertEqual(checks.sure_ones(catalog, orders), [])
        for house in catalog[0]:
            self.assertTrue(checks.all_plans(closed_by_hand(catalog, house), orders))
        self.assertEqual(insured(catalog, orders), ("unsure", None))

    def sure(self, catalog, orders):
        """Insured tells sends that are sure."""
        word, sends = insured(catalog, orders)
        self.assertEqual(word, "sure")
        self.assertTrue(is_dated(catalog, orders, sends))
        self.assertEqual(checks.failures(catalog, orders, sends), [])

    def test_two_things_that_must_go_while_a_third_cannot_yet(self):
        lanes = tuple([(house, "ra", 0, 0, 1) for house in ("east", "west")])
        supplies = tuple([(item[0] + house[0], house, item, day, 1) for house, late in (("east", 0), ("west", 1))
                          for item, day in (("tea", 0), ("cup", 0), ("pot", 2 + late))])
        catalog = (("east", "west"), ("ra",), ("tea", "cup", "pot"), lanes, supplies)
        self.sure(catalog, (("a", "ra", ((("tea",), 1), (("cup",), 1)), 0, 1), ("b", "ra", ((("pot",), 1),), 5, 1)))
        self.sure(catalog, (("a", "ra", ((("tea",), 1),), 0, 1), ("b", "ra", ((("cup",), 1),), 1, 1),
                            ("c", "ra", ((("pot",), 1),), 3, 1)))

    def test_a_wish_of_which_some_things_must_go_and_some_cannot_yet(self):
        catalog, orders = TORN
        supplies = (("t", "w", "k", 1, 1), ("sj", "w", "j", 0, 1), ("si", "v", "i", 0, 2), ("sl", "y", "l", 2, 1),
                    ("sk", "x", "k", 2, 1))
        self.sure(replaced(catalog, 4, supplies), (orders[0], replaced(orders[1], 2, ((("i", "k"), 2),)),
                                                   replaced(orders[2], 3, 3)))
        supplies = (("sk", "x", "k", 2, 2), ("sl", "y", "l", 2, 2), ("t", "v", "i", 2, 1), ("sj", "w", "j", 0, 2),
                    ("si", "v", "i", 0, 1))
        self.sure(replaced(catalog, 4, supplies), (orders[0], replaced(orders[2], 2, ((("j", "l"), 2),)), orders[1]))

    def test_a_thing_that_must_not_go_too_early_or_too_late(self):
        # Sent of s on day 0, or on day 1 of either: on day 2 east may be closed, and west comes too late then.
        orders = (tea("a", 1, by=3),)
        sure = checks.sure_ones(SHOP, orders)
        self.assertEqual(sure, [((0, "a", 0, "s", 1),), ((1, "a", 0, "s", 1),), ((1, "a", 0, "t", 1),)])
        self.assertTrue(insured(SHOP, orders)[1] in sure)

    def test_against_a_search_through_all_rows_of_sends(self):
        words = {"sure": 0, "none": 0, "house": 0, "some": 0}
        for catalog, orders, dated in cases(30, 500, insured_case) + cases(31, 700, torn_case):
            sure = [sends for sends in dated if not checks.failures(catalog, orders, sends)]
            word, told = insured(catalog, orders)
            with self.subTest(catalog=catalog, orders=orders):
                self.assertEqual(word, "sure" if sure else "unsure")
                without = [house for house in catalog[0]
                           if not checks.all_plans(closed_by_hand(catalog, house), orders)]
                if sure:
                    self.assertTrue(tuple(sorted(told)) in sure, told)
                    words["sure"] += 1
                    words["some"] += len(sure) < len(dated)
                elif without:
                    self.assertIn(told[0], without)
                    self.assertTrue(checks.is_cut(closed_by_hand(catalog, told[0]), orders, told[1]))
                    words["house"] += 1
                else:
                    self.assertIsNone(told)
                    words["none"] += 1
        self.assertGreater(min(words.values()), 50, words)

    def test_five_things_of_one_wish_and_of_five(self):
        supplies = tuple([("s%d" % place, ("east", "west")[place % 2], ("tea", "cup")[place // 2 % 2], place % 3, 2)
                          for place in range(14)])
        catalog = replaced(SHOP, 4, supplies)
        for orders in ((tea("a", 5),), (("a", "ra", ((("tea",), 1), (("cup", "tea"), 1), (("cup",), 1)), 6, 1),
                                        ("b", "ra", ((("tea",), 1), (("cup",), 1)), 7, 1))):
            word, sends = insured(catalog, orders)
            self.assertEqual(word, "sure")
            self.assertTrue(is_dated(catalog, orders, sends))
            self.assertEqual(checks.failures(catalog, orders, sends), [])

    def test_many_supplies_of_many_days_are_answered_soon(self):
        draw = random.Random(32)
        catalog, orders = TORN
        for _ in range(15):
            houses = catalog[0] + ("z",)
            items = catalog[2] + ("m",)
            lanes = tuple([(house, region, 0, 0, 1) for house in houses for region in ("r", "q")])
            late = [row[:3] + (row[3] + 12,) + row[4:] for row in catalog[4]]
            late += [("t%d" % place, draw.choice(houses), "m", place, 1) for place in range(10)]
            great = tuple([replaced(order, 3, order[3] + 12) for order in orders])
            great += (("d", "q", ((("m",), 1), (("m",), 1)), 60, 1),)
            word, told = insured((houses, ("r", "q"), items, lanes, tuple(late)), great)
            self.assertEqual((word, told), ("unsure", None))

    def test_values_are_of_tuples_and_arguments_stay(self):
        for orders in ((tea("a", 2),), (tea("a", 3),), ()):
            arguments = (SHOP, orders)
            before = copy.deepcopy(arguments)
            found = insured(*arguments)
            self.assertEqual(found, insured(*arguments))
            self.assertEqual(arguments, before)
            self.assertTrue(type(found) is type(found[1]) is tuple)
        for send in insured(SHOP, (tea("a", 2),))[1]:
            self.assertEqual([type(part) for part in send], [int, str, int, str, int])

    def test_errors(self):
        too_many = ((tea("a", 6),), (tea("a", 3), tea("b", 3)), tuple([tea(name, 1) for name in letters(5)]),
                    (("a", "ra", ((("tea",), 2), (("cup",), 2), (("cup",), 2)), 4, 1),))
        fitting = ((tea("a", 5),), (tea("a", 3), tea("b", 2)), tuple([tea(name, 1) for name in letters(4)]),
                   tuple([tea(name, 1) for name in letters(3)]) + (tea("d", 2),))
        for orders in fitting:
            self.assertEqual(insured(SHOP, orders)[0], "unsure")
            self.assertIs(is_sure(SHOP, orders, ()), False)
        for value in ODD_VALUES + too_many + ([tea("a", 1)], tea("a", 1), (tea("a", 1), tea("a", 1)),
                                              (tea("a", True),), (tea("a", 1, by=61),)):
            with self.subTest(value=value):
                self.assertRaises(BadOrder, insured, SHOP, value)
                self.assertRaises(BadOrder, is_sure, SHOP, value, ())
                self.assertRaises(BadOrder, mended, SHOP, value, None, None, None)
                self.assertRaises(BadCatalog, insured, (), value)
                self.assertRaises(BadCatalog, is_sure, (), value, value)
                self.assertRaises(BadCatalog, mended, (), value, value, value, value)
                self.assertRaises(BadCatalog, insured, value, ())
                self.assertRaises(BadCatalog, SureBook, value)


class IsSureTest(unittest.TestCase):

    ORDERS = (("a", "ra", ((("tea",), 1), (("cup", "tea"), 1)), 4, 1),)
    SENDS = ((0, "a", 0, "s", 1), (2, "a", 1, "u", 1))

    def sure(self, *values, orders=ORDERS):
        for value in values:
            with self.subTest(value=value):
                self.assertIs(is_sure(SHOP, orders, value), True)

    def not_sure(self, *values, orders=ORDERS):
        for value in values:
            with self.subTest(value=value):
                self.assertIs(is_sure(SHOP, orders, value), False)

    def test_every_row_of_sends_as_the_point_says(self):
        counts = {0: 0, 1: 0, 2: 0}
        draw = random.Random(33)
        for catalog, orders, dated in cases(34, 250, insured_case) + cases(35, 250, torn_case):
            for sends in draw.sample(dated, min(12, len(dated))):
                failures = checks.failures(catalog, orders, sends)
                counts[min(2, len(failures))] += 1
                mixed = tuple(draw.sample(sends, len(sends)))
                self.assertIs(is_sure(catalog, orders, mixed), not failures)
        self.assertGreater(min(counts.values()), 100, counts)

    def test_sends_of_other_days_and_supplies(self):
        self.sure(self.SENDS, self.SENDS[::-1], ((0, "a", 0, "s", 1), (0, "a", 1, "u", 1)),
                  ((1, "a", 0, "t", 1), (1, "a", 1, "s", 1)), ((2, "a", 0, "t", 1), (2, "a", 1, "t", 1)))

    def test_that_fails_for_one_house_on_one_day_alone(self):
        # East may close on day 3, and of west nothing comes in time then.
        sends = ((3, "a", 0, "s", 1), (2, "a", 1, "u", 1))
        self.assertEqual(checks.failures(SHOP, self.ORDERS, sends), [("east", 3)])
        self.not_sure(sends)

    def test_sends_out_of_their_windows(self):
        orders = (tea("a", 1),)
        self.sure(((0, "a", 0, "s", 1),), ((2, "a", 0, "s", 1),), ((1, "a", 0, "t", 1),), ((2, "a", 0, "t", 1),),
                  orders=orders)
        self.not_sure(((-1, "a", 0, "s", 1),), ((0, "a", 0, "t", 1),), ((3, "a", 0, "t", 1),), ((4, "a", 0, "s", 1),),
                      ((61, "a", 0, "s", 1),), ((10 ** 30, "a", 0, "s", 1),), orders=orders)

    def test_the_same_sends_in_several(self):
        # Point 30 does not ask that no two of them be alike.
        orders = (tea("a", 2),)
        self.sure(((0, "a", 0, "s", 2),), ((0, "a", 0, "s", 1), (0, "a", 0, "s", 1)),
                  ((0, "a", 0, "s", 1), (1, "a", 0, "s", 1)), ((2, "a", 0, "t", 1), (2, "a", 0, "s", 1)), orders=orders)
        self.not_sure(((0, "a", 0, "s", 3), (0, "a", 0, "s", -1)), ((0, "a", 0, "s", 2), (0, "a", 0, "s", 0)),
                      ((0, "a", 0, "s", 2), (0, "a", 0, "s", 1)), ((0, "a", 0, "s", 1),), (), orders=orders)

    def test_more_than_a_supply_has(self):
        supplies = (("s", "east", "tea", 0, 1), ("t", "west", "tea", 0, 2), ("u", "east", "tea", 0, 1))
        catalog = replaced(SHOP, 4, supplies)
        orders = (tea("a", 2),)
        self.assertIs(is_sure(catalog, orders, ((0, "a", 0, "s", 1), (0, "a", 0, "u", 1))), True)
        self.assertIs(is_sure(catalog, orders, ((0, "a", 0, "s", 2),)), False)
        self.assertIs(is_sure(catalog, orders, ((0, "a", 0, "s", 1), (0, "a", 0, "s", 1))), False)

    def test_supplies_that_cannot_serve(self):
        self.not_sure(((0, "a", 0, "u", 1), (0, "a", 1, "u", 1)), ((0, "a", 0, "x", 1), (0, "a", 1, "u", 1)),
                      ((0, "b", 0, "s", 1), (0, "a", 1, "u", 1)), ((0, "a", 2, "s", 1), (0, "a", 1, "u", 1)))
        self.not_sure(((0, "a", 0, "t", 1),), orders=(tea("a", 1, region="rb"),))

    def test_other_kinds(self):
        self.not_sure(*ODD_VALUES)
        self.not_sure((), list(self.SENDS), ("sure", self.SENDS), self.SENDS[0], self.SENDS + self.SENDS[:1],
                      tuple([list(send) for send in self.SENDS]), tuple([send[1:] for send in self.SENDS]),
                      tuple([send + (1,) for send in self.SENDS]))
        for at, send in enumerate(self.SENDS):
            for value in ODD_VALUES:
                self.not_sure(replaced(self.SENDS, at, value), self.SENDS + (value,))
                for part in range(5):
                    # A day 0 may well be sure, and a place 0 is right.
                    if value is False or value != 0 or part not in (0, 2):
                        self.not_sure(replaced(self.SENDS, at, replaced(send, part, value)))

    def test_true_in_place_of_one(self):
        sends = ((1, "a", 0, "s", 1), (1, "a", 1, "u", 1))
        self.sure(sends)
        self.not_sure(((1, "a", False, "s", 1), sends[1]), (sends[0], (1, "a", True, "u", 1)),
                      ((True, "a", 0, "s", 1), sends[1]), ((1, "a", 0, "s", True), sends[1]))


class MendedTest(unittest.TestCase):

    def right(self, catalog, orders, sends, house, day):
        """What mended tells serves the rest of all wishes of what other houses have left then."""
        told = mended(catalog, orders, sends, house, day)
        things, stocks = checks.rest_on(catalog, orders, sends, house, day)
        self.assertIs(type(told), tuple)
        self.assertEqual(len({send[:3] for send in told}), len(told))
        for name, place, supply, count in told:
            row = checks.supply_of(catalog, supply)
            self.assertNotEqual(row[1], house)
            self.assertIs(type(count), int)
            self.assertGreaterEqual(count, 1)
            self.assertTrue(checks.can_serve(catalog, orders, (name, place), row, day))
            stocks[supply] -= count
            for _ in range(count):
                things.remove((name, place))
        self.assertEqual((things, min(stocks.values(), default=0)), ([], max(0, min(stocks.values(), default=0))))
        return told

    def test_drawn_ones_on_every_day(self):
        sent_instead = 0
        for catalog, orders, dated in cases(36, 200, insured_case) + cases(37, 150, torn_case):
            word, sends = insured(catalog, orders)
            if word == "sure":
                for house in catalog[0]:
                    for day in (0, 1, 2, 3, 4, 5, 98, 99):
                        told = self.right(catalog, orders, sends, house, day)
                        sent_instead += len(told) > 0
                        if day > max(order[3] for order in orders):
                            self.assertEqual(told, ())
        self.assertGreater(sent_instead, 100)

    def test_days_nought_between_at_and_behind_the_greatest_by(self):
        orders = (tea("a", 1), tea("b", 1, by=3))
        sends = ((2, "a", 0, "t", 1), (0, "b", 0, "s", 1))
        self.assertEqual(checks.failures(SHOP, orders, sends), [])
        self.assertEqual(self.right(SHOP, orders, sends, "west", 0), (("a", 0, "s", 1), ("b", 0, "s", 1)))
        self.assertEqual(self.right(SHOP, orders, sends, "east", 0), (("a", 0, "t", 1), ("b", 0, "t", 1)))
        for day in (1, 2):
            self.assertEqual(self.right(SHOP, orders, sends, "west", day), (("a", 0, "s", 1),))
            self.assertEqual(self.right(SHOP, orders, sends, "east", day), (("a", 0, "t", 1),))
        for day in (3, 4, 5, 60, 61, 98, 99):
            for house in SHOP[0]:
                self.assertEqual(self.right(SHOP, orders, sends, house, day), ())

    def test_a_day_ahead_of_that_days_sends(self):
        orders = (tea("a", 1),)
        sends = ((2, "a", 0, "s", 1),)
        self.assertEqual(self.right(SHOP, orders, sends, "east", 2), (("a", 0, "t", 1),))
        self.assertEqual(self.right(SHOP, orders, sends, "east", 3), ())

    def test_each_pair_of_wish_and_supply_once(self):
        orders = (tea("a", 2),)
        sends = ((0, "a", 0, "s", 1), (2, "a", 0, "s", 1))
        self.assertEqual(self.right(SHOP, orders, sends, "east", 0), (("a", 0, "t", 2),))
        self.assertEqual(self.right(SHOP, orders, sends, "east", 1), (("a", 0, "t", 1),))

    def test_no_orders(self):
        self.assertEqual(mended(SHOP, (), (), "east", 0), ())

    def test_errors(self):
        orders = (tea("a", 1),)
        sends = ((0, "a", 0, "s", 1),)
        self.assertEqual(mended(SHOP, orders, sends, "east", 1), ())
        wrong = ((), list(sends), ((4, "a", 0, "s", 1),), ((0, "a", 0, "s", True),), sends * 2, ("sure", sends),
                 ((3, "a", 0, "s", 1),))
        for value in ODD_VALUES + wrong:
            with self.subTest(sends=value):
                self.assertRaises(BadOrder, mended, SHOP, orders, value, "east", 0)
                self.assertRaises(BadOrder, mended, SHOP, orders, value, None, None)
        for value in ODD_VALUES + ((), "north", "ra", ("east",), ["east"]):
            with self.subTest(house=value):
                self.assertRaises(BadName, mended, SHOP, orders, sends, value, 0)
        for value in ODD_VALUES + ((), -1, 100, "1", (1,)):
            if value != 0 or value is False:
                with self.subTest(day=value):
                    self.assertRaises(BadName, mended, SHOP, orders, sends, "east", value)

    def test_too_many_things_or_orders(self):
        catalog = replaced(SHOP, 4, (("s", "east", "tea", 0, 9), ("t", "west", "tea", 0, 9)))
        five = tuple([tea(name, 1) for name in letters(5)])
        self.assertEqual(mended(catalog, (tea("a", 5),), ((0, "a", 0, "s", 5),), "east", 1), ())
        for orders in ((tea("a", 6),), (tea("a", 3), tea("b", 3)), five):
            sends = tuple([(0, order[0], 0, "s", order[2][0][1]) for order in orders])
            self.assertRaises(BadOrder, mended, catalog, orders, sends, "east", 1)
            self.assertRaises(BadOrder, is_sure, catalog, orders, sends)

    def test_arguments_stay(self):
        arguments = (SHOP, (tea("a", 2),), ((0, "a", 0, "s", 1), (2, "a", 0, "s", 1)), "east", 1)
        before = copy.deepcopy(arguments)
        self.assertEqual(mended(*arguments), mended(*arguments))
        self.assertEqual(arguments, before)


class SureBookTest(unittest.TestCase):

    def test_promised_and_refused(self):
        book = SureBook(SHOP)
        self.assertEqual((book.orders, book.sends()), ((), ()))
        self.assertIs(book.ask(tea("a", 1)), True)
        self.assertIs(book.ask(tea("b", 2)), False)
        self.assertEqual(book.orders, (tea("a", 1),))
        self.assertIs(book.ask(tea("b", 1)), True)
        self.assertEqual(book.orders, (tea("a", 1), tea("b", 1)))
        self.assertEqual(checks.failures(SHOP, book.orders, book.sends()), [])
        self.assertIs(is_sure(SHOP, book.orders, book.sends()), True)

    def test_it_refuses_what_a_book_would_promise(self):
        for order in (tea("a", 3), tea("a", 1, by=1), tea("a", 1, region="rb")):
            self.assertIs(Book(SHOP).ask(order), True)
            self.assertIs(SureBook(SHOP).ask(order), False)
        catalog, orders = TORN
        book, sure = Book(catalog), SureBook(catalog)
        self.assertEqual([book.ask(order) for order in orders], [True, True, True])
        self.assertEqual([sure.ask(order) for order in orders], [True, True, False])
        self.assertEqual(sure.orders, orders[:2])

    def test_names_and_too_many(self):
        catalog = replaced(SHOP, 4, (("s", "east", "tea", 0, 9), ("t", "west", "tea", 0, 9)))
        book = SureBook(catalog)
        self.assertRaises(BadOrder, book.ask, tea("a", 6))
        self.assertIs(book.ask(tea("a", 1)), True)
        self.assertRaises(BadName, book.ask, tea("a", 1))
        self.assertRaises(BadName, book.ask, tea("a", 5))
        self.assertRaises(BadOrder, book.ask, tea("a", 0))
        self.assertRaises(BadOrder, book.ask, tea("b", 5))
        self.assertIs(book.ask(tea("b", 1)), True)
        self.assertIs(book.ask(tea("c", 1)), True)
        self.assertRaises(BadOrder, book.ask, tea("d", 3))
        before = (book.orders, book.sends())
        self.assertRaises(BadOrder, book.ask, tea("d", 99))
        self.assertEqual((book.orders, book.sends()), before)
        self.assertIs(book.ask(tea("d", 1)), True)
        self.assertRaises(BadOrder, book.ask, tea("e", 1))
        self.assertRaises(BadName, book.ask, tea("d", 1))
        full = SureBook(catalog)
        self.assertIs(full.ask(tea("a", 5)), True)
        self.assertRaises(BadOrder, full.ask, tea("b", 1))

    def test_orders_that_are_none(self):
        book = SureBook(SHOP)
        book.ask(tea("a", 1))
        for value in ODD_VALUES + ((), list(tea("b", 1)), tea("b", True), tea("b", 1, region="rc"), (tea("b", 1),)):
            with self.subTest(value=value):
                self.assertRaises(BadOrder, book.ask, value)
        self.assertEqual(book.orders, (tea("a", 1),))
        self.assertRaises(BadCatalog, SureBook, ())

    def test_drawn_ones(self):
        draw = random.Random(38)
        promised = refused = 0
        for draw_one in [insured_case] * 60 + [torn_case] * 60:
            catalog, orders = draw_one(draw)
            book = SureBook(catalog)
            for name in NAMES[:4]:
                order = drawn_order(draw, catalog, name, wishes=1, count=1)
                if orders and draw.random() < 0.6:
                    order, orders = replaced(orders[0], 0, name), orders[1:]
                asked = book.orders + (order,)
                if len(checks.things_of(asked)) > 4:
                    continue
                can_be = insured(catalog, asked)[0] == "sure"
                before = (book.orders, book.sends())
                self.assertIs(book.ask(order), can_be)
                promised += can_be
                refused += not can_be
                if can_be:
                    self.assertEqual(book.orders, asked)
                    self.assertTrue(is_dated(catalog, asked, book.sends()))
                    self.assertEqual(checks.failures(catalog, asked, book.sends()), [])
                else:
                    self.assertEqual((book.orders, book.sends()), before)
        self.assertGreater(min(promised, refused), 60)


if __name__ == "__main__":
    unittest.main()
