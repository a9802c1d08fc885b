"""The book of what is promised (points 6 to 8, surehouse/books.py)."""

import copy
import itertools
import random
import unittest

import checks
from draws import NAMES, drawn_catalog, drawn_order, drawn_orders, great_case
from samples import CATALOG, ODD_VALUES, letters, replaced
from surehouse import books
from surehouse.books import Book, asked_all
from surehouse.errors import BadCatalog, BadItem, BadName, BadNumber, BadOrder

SHOP = (
    ("east", "west"),
    ("ra", "rb"),
    ("tea", "cup"),
    (("east", "ra", 0, 1, 2), ("west", "ra", 1, 2, 5), ("east", "rb", 0, 0, 1)),
    (("s", "east", "tea", 0, 3), ("t", "west", "tea", 2, 4), ("u", "west", "cup", 0, 5), ("v", "east", "cup", 58, 9)),
)


def order(name, region, *wishes, by=4, worth=1):
    return (name, region, wishes, by, worth)


def tea(name, count, region="ra", by=4):
    return order(name, region, (("tea",), count), by=by)


def told(book):
    """All that a book tells but its refusals."""
    return (book.orders, book.sends(), [book.most(("tea",), "ra", by) for by in (0, 1, 4)],
            book.curve(("cup", "tea"), "rb"))


class BookTest(unittest.TestCase):

    def test_defined_in_their_file(self):
        self.assertEqual((Book.__module__, asked_all.__module__), ("surehouse.books", "surehouse.books"))
        for name in ("ask", "cancel", "sends", "most", "earliest", "curve", "orders", "refusals"):
            self.assertIn(name, vars(books.Book))

    def test_the_example_of_the_interface(self):
        catalog = (("east",), ("ra",), ("tea",), (("east", "ra", 1, 2, 5),),
                   (("s", "east", "tea", 3, 4), ("t", "east", "tea", 6, 1)))
        book = Book(catalog)
        found = [book.ask(("o", "ra", ((("tea",), 3),), 5, 1)), book.most(("tea",), "ra", 5),
                 book.earliest(("tea",), "ra", 2), book.curve(("tea",), "ra")]
        self.assertEqual(found, [True, (1, (("o", 0),)), 8, ((5, 1), (8, 2))])

    def test_a_new_book(self):
        book = Book(SHOP)
        self.assertEqual((book.orders, book.refusals, book.sends()), ((), [], ()))
        for value in ODD_VALUES + ((), list(SHOP)):
            self.assertRaises(BadCatalog, Book, value)

    def test_asked_refused_cancelled_and_asked_again(self):
        book = Book(SHOP)
        self.assertIs(book.ask(tea("a", 4)), True)
        self.assertIs(book.ask(tea("b", 4)), False)
        self.assertIs(book.ask(tea("b", 3)), True)
        self.assertIs(book.ask(tea("c", 1)), False)
        self.assertEqual(book.orders, (tea("a", 4), tea("b", 3)))
        self.assertEqual([pair[0] for pair in book.refusals], [tea("b", 4), tea("c", 1)])
        self.assertIsNone(book.cancel("a"))
        self.assertEqual(book.orders, (tea("b", 3),))
        self.assertTrue(checks.is_plan(SHOP, book.orders, book.sends()))
        self.assertIs(book.ask(tea("c", 1)), True)
        self.assertIs(book.ask(tea("a", 4)), False)
        self.assertIs(book.ask(tea("a", 3)), True)
        self.assertEqual(book.orders, (tea("b", 3), tea("c", 1), tea("a", 3)))
        self.assertTrue(checks.is_plan(SHOP, book.orders, book.sends()))

    def test_a_promise_may_be_sent_otherwise_than_at_first(self):
        book = Book(SHOP)
        self.assertIs(book.ask(tea("a", 3)), True)
        self.assertIs(book.ask(tea("b", 3, "rb")), True)
        self.assertIs(book.ask(tea("c", 1)), True)
        self.assertIs(book.ask(tea("d", 1)), False)
        self.assertTrue(checks.is_plan(SHOP, book.orders, book.sends()))

    def test_refusals_show_wishes_that_cannot_be(self):
        book = Book(SHOP)
        book.ask(tea("a", 4))
        asked = order("b", "ra", (("cup",), 5), (("tea",), 4))
        self.assertIs(book.ask(asked), False)
        refused, (word, wishes) = book.refusals[0]
        self.assertEqual((refused, word, set(wishes)), (asked, "cut", {("a", 0), ("b", 1)}))
        self.assertTrue(checks.is_cut(SHOP, book.orders + (asked,), wishes))
        self.assertIs(type(book.refusals), list)
        self.assertIs(type(book.refusals[0]), tuple)
        self.assertIs(book.ask(asked), False)
        self.assertEqual(len(book.refusals), 2)

    def test_a_refusal_changes_nothing_but_refusals(self):
        book = Book(SHOP)
        book.ask(tea("a", 2))
        book.ask(tea("b", 2, "rb"))
        before = told(book)
        for count in (4, 9, 99):
            self.assertIs(book.ask(tea("c", count)), False)
            self.assertEqual(told(book), before)
        self.assertEqual(len(book.refusals), 3)

    def test_an_error_changes_nothing_at_all(self):
        book = Book(SHOP)
        book.ask(tea("a", 2))
        book.ask(tea("b", 9))
        before = (told(book), book.refusals)
        for value in ODD_VALUES + (tea("a", 1), tea("c", 100), tea("c", 1, "rc")):
            self.assertRaises((BadOrder, BadName), book.ask, value)
            self.assertRaises(BadName, book.cancel, value)
        self.assertEqual((told(book), book.refusals), before)

    def test_what_is_handed_back_is_new(self):
        book = Book(SHOP)
        book.ask(tea("a", 2))
        book.ask(tea("b", 9))
        before = copy.deepcopy((told(book), book.refusals))
        book.refusals.clear()
        book.refusals.append("more")
        self.assertIsNot(book.refusals, book.refusals)
        for row in (book.orders, book.sends(), book.sends()[0], book.most(("tea",), "ra", 4), book.refusals[0]):
            self.assertIs(type(row), tuple)
        self.assertEqual((told(book), book.refusals), before)

    def test_names_that_are_promised(self):
        book = Book(SHOP)
        book.ask(tea("a", 2))
        self.assertRaises(BadName, book.ask, tea("a", 2))
        self.assertRaises(BadName, book.ask, tea("a", 99))
        self.assertRaises(BadName, book.ask, order("a", "rb", (("cup",), 1), by=60))
        self.assertEqual(book.refusals, [])
        self.assertRaises(BadOrder, book.ask, tea("a", 100))
        book.cancel("a")
        self.assertIs(book.ask(tea("a", 2)), True)

    def test_a_thirteenth_order(self):
        catalog = replaced(SHOP, 4, (("s", "east", "tea", 0, 99),))
        book = Book(catalog)
        names = letters(13)
        for name in names[:12]:
            self.assertIs(book.ask(tea(name, 1)), True)
        self.assertEqual(len(book.orders), 12)
        self.assertRaises(BadName, book.ask, tea(names[12], 1))
        self.assertRaises(BadName, book.ask, tea(names[12], 99))
        self.assertRaises(BadOrder, book.ask, tea(names[12], 100))
        self.assertEqual(book.refusals, [])
        # What could be promised more is asked of the things, not of how many orders there are.
        self.assertEqual(book.most(("tea",), "ra", 4)[0], 87)
        book.cancel(names[3])
        self.assertIs(book.ask(tea(names[12], 1)), True)
        self.assertEqual([one[0] for one in book.orders], [name for name in names if name != names[3]])

    def test_orders_of_no_catalog(self):
        book = Book(SHOP)
        for value in ODD_VALUES + ((), list(tea("a", 1)), tea("a", 1, "rc"), tea("a", 0), tea("a", True),
                                   order("a", "ra", (("pot",), 1)), (tea("a", 1),)):
            with self.subTest(value=value):
                self.assertRaises(BadOrder, book.ask, value)
        self.assertEqual((book.orders, book.refusals), ((), []))

    def test_cancel_names_of_no_promise(self):
        book = Book(SHOP)
        book.ask(tea("a", 2))
        book.ask(tea("b", 9))
        for value in ODD_VALUES + ((), "b", "c", ("a",), ["a"], tea("a", 2)):
            with self.subTest(value=value):
                self.assertRaises(BadName, book.cancel, value)
        book.cancel("a")
        self.assertRaises(BadName, book.cancel, "a")
        self.assertEqual((book.orders, book.sends()), ((), ()))

    def test_books_do_not_share_anything(self):
        one, other = Book(SHOP), Book(SHOP)
        one.ask(tea("a", 2))
        one.ask(tea("b", 9))
        self.assertEqual((other.orders, other.refusals, other.sends()), ((), [], ()))


class NeverTakenBackTest(unittest.TestCase):

    def test_whatever_is_asked_later(self):
        draw = random.Random(70)
        promised = refused = 0
        for _ in range(120):
            catalog = drawn_catalog(draw, supplies=6, count=4)
            book = Book(catalog)
            for step in range(14):
                before = book.orders
                if before and draw.random() < 0.25:
                    gone = draw.choice(before)
                    book.cancel(gone[0])
                    self.assertEqual(book.orders, tuple([one for one in before if one != gone]))
                else:
                    asked = drawn_order(draw, catalog, NAMES[step])
                    many = len(book.refusals)
                    if book.ask(asked):
                        promised += 1
                        self.assertEqual(book.orders, before + (asked,))
                        self.assertEqual(len(book.refusals), many)
                    else:
                        refused += 1
                        self.assertEqual(book.orders, before)
                        row, (word, wishes) = book.refusals[-1]
                        self.assertEqual((row, word, len(book.refusals)), (asked, "cut", many + 1))
                        self.assertTrue(checks.is_cut(catalog, before + (asked,), wishes))
                self.assertTrue(checks.is_plan(catalog, book.orders, book.sends()))
        self.assertGreater(min(promised, refused), 150)

    def test_an_order_is_promised_exactly_if_all_can_be_kept(self):
        draw = random.Random(71)
        for _ in range(150):
            catalog = drawn_catalog(draw, supplies=3, count=3)
            book = Book(catalog)
            for name in NAMES[:4]:
                asked = drawn_order(draw, catalog, name, wishes=1)
                can_be = bool(checks.all_plans(catalog, book.orders + (asked,)))
                self.assertIs(book.ask(asked), can_be)


class AskedAllTest(unittest.TestCase):

    def test_what_a_new_book_returns(self):
        orders = (tea("a", 4), tea("b", 4), tea("c", 3), tea("d", 1), order("e", "ra", (("cup",), 5)))
        self.assertEqual(asked_all(SHOP, orders), (True, False, True, False, True))
        self.assertEqual(asked_all(SHOP, ()), ())
        self.assertEqual(asked_all(SHOP, orders), asked_all(SHOP, orders))
        for value in asked_all(SHOP, orders):
            self.assertIs(type(value), bool)

    def test_against_a_book(self):
        draw = random.Random(72)
        for _ in range(80):
            catalog = drawn_catalog(draw, supplies=6)
            orders = drawn_orders(draw, catalog, orders=8)
            book = Book(catalog)
            self.assertEqual(asked_all(catalog, orders), tuple([book.ask(one) for one in orders]))

    def test_any_tuple_of_orders_that_a_book_takes(self):
        # A refused order may be asked again, and only those that are promised are at most twelve.
        self.assertEqual(asked_all(SHOP, (tea("a", 9), tea("a", 8), tea("a", 7))), (False, False, True))
        refused = tuple([tea(name, 9) for name in letters(20)])
        self.assertEqual(asked_all(SHOP, refused), (False,) * 20)
        self.assertRaises(BadName, asked_all, SHOP, (tea("a", 1), tea("a", 1)))
        many = tuple([tea(name, 1) for name in letters(13)])
        catalog = replaced(SHOP, 4, (("s", "east", "tea", 0, 99),))
        self.assertEqual(asked_all(catalog, many[:12]), (True,) * 12)
        self.assertRaises(BadName, asked_all, catalog, many)

    def test_errors(self):
        for value in ODD_VALUES + ([tea("a", 1)], tea("a", 1), (tea("a", 1), None), (tea("a", 100),)):
            with self.subTest(value=value):
                self.assertRaises(BadOrder, asked_all, SHOP, value)
                self.assertRaises(BadCatalog, asked_all, (), value)
                self.assertRaises(BadCatalog, asked_all, value, (tea("a", 1),))


class MostTest(unittest.TestCase):

    def test_against_a_search_with_one_more_order(self):
        draw = random.Random(73)
        some = 0
        for _ in range(150):
            catalog = drawn_catalog(draw, supplies=4, count=2)
            book = Book(catalog)
            for name in NAMES[:3]:
                book.ask(drawn_order(draw, catalog, name, wishes=2))
            items = tuple(draw.sample(catalog[2], draw.randint(1, len(catalog[2]))))
            region = draw.choice(catalog[1])
            counts = []
            for by in range(7):
                count, wishes = book.most(items, region, by)
                counts.append(count)
                more = [book.orders + (("new", region, ((items, tried),), by, 0),) for tried in (count, count + 1)]
                if count > 0:
                    self.assertTrue(checks.all_plans(catalog, more[0]))
                    some += 1
                self.assertEqual(checks.all_plans(catalog, more[1]), [])
                self.tight(catalog, book, more[1], count, wishes)
            # Nothing comes behind day 4, and no lane takes longer than a day.
            full = counts + [counts[-1]] * 54
            self.assertEqual(book.curve(items, region), tuple(
                [(day, full[day]) for day in range(61) if full[day] > (full[day - 1] if day else 0)]))
            for count in range(1, 9):
                days = [day for day in range(61) if full[day] >= count]
                self.assertEqual(book.earliest(items, region, count), days[0] if days else None)
        self.assertGreater(some, 150)

    def tight(self, catalog, book, more, count, wishes):
        """All supplies that can serve a wish told or the new one have just their counts and this one."""
        self.assertIs(type(wishes), tuple)
        self.assertEqual(len(set(wishes)), len(wishes))
        self.assertLessEqual(set(wishes), set(checks.wishes_of(book.orders)))
        held = sum(checks.wish_of(book.orders, pair)[1][1] for pair in wishes)
        self.assertEqual(checks.room_of(catalog, more, wishes + (("new", 0),)), held + count)

    def test_great_ones(self):
        for seed in range(6):
            catalog, orders = great_case(seed)
            book = Book(catalog)
            for one in orders:
                book.ask(one)
            for by in (0, 20, 40, 60):
                count, wishes = book.most(catalog[2][:3], catalog[1][0], by)
                more = book.orders + (("new", catalog[1][0], ((catalog[2][:3], 1),), by, 0),)
                self.tight(catalog, book, more, count, wishes)
                day = book.earliest(catalog[2][:3], catalog[1][0], count) if count > 0 else 0
                self.assertLessEqual(day, by)

    def test_a_new_book(self):
        book = Book(SHOP)
        self.assertEqual(book.most(("tea",), "ra", 4), (7, ()))
        self.assertEqual(book.most(("tea",), "ra", 0), (0, ()))
        self.assertEqual(book.most(("cup",), "rb", 60), (9, ()))
        self.assertEqual(book.most(("tea", "cup"), "ra", 60), (21, ()))
        self.assertEqual(book.curve(("tea",), "ra"), ((1, 3), (4, 7)))
        self.assertEqual(book.curve(("tea",), "rb"), ((0, 3),))
        self.assertEqual(book.curve(("cup",), "rb"), ((58, 9),))
        self.assertEqual(Book(replaced(SHOP, 4, ())).curve(("tea",), "ra"), ())

    def test_counts_of_nothing_and_of_more_than_ninety_nine(self):
        lanes = (("east", "ra", 0, 0, 0),)
        rows = tuple([("s%d" % place, "east", "tea", place * 4, 99) for place in range(14)])
        book = Book((("east",), ("ra", "rb"), ("tea",), lanes, rows))
        self.assertEqual(book.most(("tea",), "ra", 60), (1386, ()))
        self.assertEqual(book.most(("tea",), "ra", 0), (99, ()))
        self.assertEqual(book.most(("tea",), "rb", 60), (0, ()))
        self.assertEqual(book.earliest(("tea",), "ra", 999), 40)
        self.assertEqual(book.earliest(("tea",), "ra", 990), 36)
        self.assertEqual(book.earliest(("tea",), "ra", 1), 0)
        self.assertIsNone(book.earliest(("tea",), "rb", 1))
        self.assertEqual(book.curve(("tea",), "ra"), tuple([(place * 4, 99 * place + 99) for place in range(14)]))
        book.ask(("a", "ra", ((("tea",), 99),), 0, 0))
        self.assertEqual(book.most(("tea",), "ra", 0), (0, (("a", 0),)))
        self.assertEqual(book.most(("tea",), "ra", 3), (0, (("a", 0),)))
        self.assertEqual(book.most(("tea",), "ra", 60)[0], 1287)

    def test_days_nought_and_sixty(self):
        lanes = (("east", "ra", 0, 0, 0),)
        book = Book((("east",), ("ra",), ("tea",), lanes, (("s", "east", "tea", 0, 2), ("t", "east", "tea", 60, 3))))
        self.assertEqual([book.most(("tea",), "ra", by)[0] for by in (0, 59, 60)], [2, 2, 5])
        self.assertEqual([book.earliest(("tea",), "ra", count) for count in (1, 2, 3, 5, 6, 999)],
                         [0, 0, 60, 60, None, None])
        self.assertEqual(book.curve(("tea",), "ra"), ((0, 2), (60, 5)))

    def test_what_comes_behind_day_sixty(self):
        lanes = (("east", "ra", 0, 1, 0), ("east", "rb", 0, 0, 0))
        book = Book((("east",), ("ra", "rb"), ("tea",), lanes, (("s", "east", "tea", 60, 2),)))
        self.assertEqual((book.most(("tea",), "ra", 60), book.most(("tea",), "rb", 60)), ((0, ()), (2, ())))
        self.assertEqual((book.earliest(("tea",), "ra", 1), book.earliest(("tea",), "rb", 1)), (None, 60))
        self.assertEqual((book.curve(("tea",), "ra"), book.curve(("tea",), "rb")), ((), ((60, 2),)))

    def test_what_is_promised_is_asked_together(self):
        book = Book(SHOP)
        book.ask(tea("a", 3))
        # The promised three may come of the west then.
        self.assertEqual(book.most(("tea",), "rb", 0)[0], 3)
        self.assertEqual(book.most(("tea",), "ra", 1)[0], 3)
        self.assertEqual(book.most(("tea",), "ra", 4), (4, (("a", 0),)))

    def test_nothing_changes(self):
        book = Book(SHOP)
        book.ask(tea("a", 3))
        before = (told(book), book.refusals)
        for _ in range(2):
            book.most(("cup",), "ra", 60)
            book.earliest(("tea",), "ra", 5)
            book.curve(("tea", "cup"), "ra")
            self.assertEqual((told(book), book.refusals), before)

    def test_a_promise_behind_it(self):
        for by in range(6):
            book = Book(SHOP)
            book.ask(tea("a", 3))
            count = book.most(("tea",), "ra", by)[0]
            self.assertIs(book.ask(tea("b", count + 1, by=by)), False)
            if count > 0:
                self.assertIs(book.ask(tea("b", count, by=by)), True)

    def test_errors(self):
        book = Book(SHOP)
        wrong_items = ODD_VALUES + ((), ("pot",), ("tea", "tea"), ["tea"], "tea", ("tea", "pot"), ("tea", "cup", 1))
        for value in wrong_items:
            with self.subTest(items=value):
                self.assertRaises(BadItem, book.most, value, "ra", 4)
                self.assertRaises(BadItem, book.curve, value, "ra")
                self.assertRaises(BadItem, book.earliest, value, "ra", 1)
                self.assertRaises(BadItem, book.earliest, value, None, None)
        for value in ODD_VALUES + ((), "rc", "east", ("ra",), ["ra"]):
            with self.subTest(region=value):
                self.assertRaises(BadItem, book.most, ("tea",), value, 4)
                self.assertRaises(BadItem, book.curve, ("tea",), value)
                self.assertRaises(BadItem, book.earliest, ("tea",), value, 1)
                self.assertRaises(BadItem, book.earliest, ("tea",), value, 0)
        for value in ODD_VALUES + ((), -1, 61, "4", (4,)):
            if value != 0 or value is False:
                with self.subTest(by=value):
                    self.assertRaises(BadItem, book.most, ("tea",), "ra", value)
        for value in ODD_VALUES + ((), -1, 0, 1000, "4", (4,)):
            with self.subTest(count=value):
                self.assertRaises(BadNumber, book.earliest, ("tea",), "ra", value)

    def test_more_items_than_a_wish_has(self):
        book = Book(CATALOG)
        self.assertEqual(book.most(CATALOG[2][:3], "ra", 60)[0], 4)
        self.assertRaises(BadItem, book.most, CATALOG[2][:4], "ra", 60)


class OneThingTest(unittest.TestCase):
    """Point 8's last sentence."""

    def test_as_many_in_any_order_of_asking_and_the_worthiest(self):
        draw = random.Random(74)
        refused = 0
        for _ in range(60):
            catalog = drawn_catalog(draw, supplies=3, count=1)
            orders = [drawn_order(draw, catalog, name, wishes=1, count=1) for name in NAMES[:5]]
            orders = [replaced(one, 4, draw.randint(0, 9)) for one in orders]
            kept = [lot for many in range(6) for lot in itertools.combinations(orders, many)
                    if checks.all_plans(catalog, lot)]
            most = max(len(lot) for lot in kept)
            refused += most < 5
            for row in itertools.permutations(orders):
                self.assertEqual(sum(asked_all(catalog, row)), most)
            falling = tuple(sorted(orders, key=lambda one: -one[4]))
            worth = sum(one[4] for one, promised in zip(falling, asked_all(catalog, falling)) if promised)
            self.assertEqual(worth, max(sum(one[4] for one in lot) for lot in kept))
        self.assertGreater(refused, 20)


if __name__ == "__main__":
    unittest.main()
