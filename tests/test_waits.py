"""Orders that wait for room (point 9, surehouse/waits.py)."""

import random
import unittest

import checks
from draws import NAMES, drawn_catalog, drawn_order
from samples import ODD_VALUES, letters, replaced
from surehouse import waits
from surehouse.books import Book
from surehouse.errors import BadCatalog, BadName, BadOrder
from surehouse.waits import Waits

SHOP = (("east",), ("ra", "rb"), ("tea", "cup"), (("east", "ra", 0, 1, 2),),
        (("s", "east", "tea", 0, 6), ("t", "east", "cup", 0, 2)))
AMPLE = replaced(SHOP, 4, (("s", "east", "tea", 0, 99),))


def tea(name, count, item="tea"):
    return (name, "ra", (((item,), count),), 4, 1)


def names(orders):
    return "".join(order[0] for order in orders)


class WaitsTest(unittest.TestCase):

    def asked(self, catalog, *orders):
        """Waits that were asked the orders."""
        found = Waits(catalog)
        for order in orders:
            found.ask(order)
        return found

    def stands(self, found, promises, row):
        """These are promised and those wait, in this order."""
        self.assertEqual((names(found.promises), names(found.row)), (promises, row))

    def test_defined_in_its_file(self):
        self.assertEqual(Waits.__module__, "surehouse.waits")
        for name in ("ask", "cancel", "promises", "row"):
            self.assertIn(name, vars(waits.Waits))

    def test_new_ones(self):
        found = Waits(SHOP)
        self.assertEqual((found.promises, found.row), ((), ()))
        for value in ODD_VALUES + ((), list(SHOP)):
            self.assertRaises(BadCatalog, Waits, value)

    def test_promised_or_waiting(self):
        found = Waits(SHOP)
        self.assertIs(found.ask(tea("a", 4)), True)
        self.assertIs(found.ask(tea("b", 3)), False)
        self.assertIs(found.ask(tea("c", 2)), True)
        self.assertIs(found.ask(tea("d", 1)), False)
        self.assertEqual(found.promises, (tea("a", 4), tea("c", 2)))
        self.assertEqual(found.row, (tea("b", 3), tea("d", 1)))

    def test_promised_behind_a_cancel(self):
        found = self.asked(SHOP, tea("a", 6), tea("b", 6), tea("c", 6))
        self.stands(found, "a", "bc")
        self.assertEqual(found.cancel("a"), ("b",))
        self.stands(found, "b", "c")
        self.assertEqual(found.cancel("b"), ("c",))
        self.assertEqual(found.cancel("c"), ())
        self.stands(found, "", "")

    def test_several_at_once_first_ones_first(self):
        found = self.asked(SHOP, tea("a", 6), tea("b", 2), tea("c", 3), tea("d", 2), tea("e", 1))
        self.assertEqual(found.cancel("a"), ("b", "c", "e"))
        self.stands(found, "bce", "d")

    def test_though_one_ahead_still_waits(self):
        found = self.asked(SHOP, tea("a", 3), tea("b", 3), tea("c", 4), tea("d", 3), tea("e", 7))
        self.stands(found, "ab", "cde")
        self.assertEqual(found.cancel("a"), ("d",))
        self.stands(found, "bd", "ce")

    def test_a_cancel_that_makes_room_for_none(self):
        found = self.asked(SHOP, tea("a", 2, "cup"), tea("b", 6), tea("c", 1))
        self.assertEqual(found.cancel("a"), ())
        self.stands(found, "b", "c")

    def test_one_that_waits_goes_without_more(self):
        found = self.asked(SHOP, tea("a", 6), tea("b", 6), tea("c", 5), tea("d", 4))
        self.assertEqual(found.cancel("c"), ())
        self.stands(found, "a", "bd")
        self.assertEqual(found.cancel("a"), ("b",))
        self.assertIs(found.ask(tea("c", 1)), False)

    def test_an_order_asked_may_pass_those_that_wait(self):
        found = self.asked(SHOP, tea("a", 4), tea("b", 4))
        self.assertIs(found.ask(tea("c", 2)), True)
        self.stands(found, "ac", "b")

    def test_a_twelfth_and_a_thirteenth_order(self):
        every = letters(16)
        found = Waits(AMPLE)
        for name in every[:12]:
            self.assertIs(found.ask(tea(name, 1)), True)
        for name in every[12:]:
            self.assertIs(found.ask(tea(name, 1)), False)
        self.stands(found, "abcdefghijkl", "mnop")
        self.assertEqual(found.cancel("c"), ("m",))
        self.stands(found, "abdefghijklm", "nop")
        self.assertEqual(found.cancel("o"), ())
        self.assertEqual(found.cancel("m"), ("n",))
        self.stands(found, "abdefghijkln", "p")

    def test_one_that_cannot_be_kept_leaves_the_twelfth_place_to_the_next(self):
        found = self.asked(AMPLE, *[tea(name, 1) for name in letters(12)])
        found.ask(tea("x", 98))
        found.ask(tea("y", 2))
        found.ask(tea("z", 1))
        self.assertEqual(found.cancel("a"), ("y",))
        self.stands(found, "bcdefghijkly", "xz")

    def test_an_eighth_and_a_ninth_that_waits(self):
        found = self.asked(SHOP, tea("a", 6))
        for name in "bcdefghi":
            self.assertIs(found.ask(tea(name, 1)), False)
        self.stands(found, "a", "bcdefghi")
        self.assertRaises(BadName, found.ask, tea("j", 1))
        self.stands(found, "a", "bcdefghi")
        # One that is promised need not wait.
        self.assertIs(found.ask(tea("k", 2, "cup")), True)
        found.cancel("d")
        self.assertIs(found.ask(tea("j", 1)), False)
        self.stands(found, "ak", "bcefghij")
        self.assertRaises(BadName, found.ask, tea("l", 1))

    def test_a_ninth_that_waits_behind_twelve(self):
        found = self.asked(AMPLE, *[tea(name, 1) for name in letters(20)])
        self.assertEqual((len(found.promises), len(found.row)), (12, 8))
        self.assertRaises(BadName, found.ask, tea("x", 1))

    def test_names_that_are_promised_or_wait(self):
        found = self.asked(SHOP, tea("a", 6), tea("b", 1))
        for name in "ab":
            self.assertRaises(BadName, found.ask, tea(name, 1))
            self.assertRaises(BadName, found.ask, tea(name, 2, "cup"))
            self.assertRaises(BadOrder, found.ask, tea(name, 0))
        self.stands(found, "a", "b")
        found.cancel("a")
        self.assertIs(found.ask(tea("a", 5)), True)
        self.assertRaises(BadName, found.ask, tea("b", 1))

    def test_errors(self):
        found = self.asked(SHOP, tea("a", 6), tea("b", 1))
        for value in ODD_VALUES + ((), list(tea("c", 1)), tea("c", True), tea("c", 1, "pot"), (tea("c", 1),)):
            with self.subTest(value=value):
                self.assertRaises(BadOrder, found.ask, value)
        for value in ODD_VALUES + ((), "c", ("a",), ["b"], tea("a", 6)):
            with self.subTest(value=value):
                self.assertRaises(BadName, found.cancel, value)
        self.stands(found, "a", "b")

    def test_values_are_of_tuples(self):
        found = self.asked(SHOP, tea("a", 6), tea("b", 1))
        for value in (found.promises, found.row, found.cancel("b"), found.cancel("a")):
            self.assertIs(type(value), tuple)

    def test_against_a_book(self):
        draw = random.Random(90)
        late = 0
        for _ in range(60):
            catalog = drawn_catalog(draw, supplies=6, count=4)
            found, promised, row = Waits(catalog), [], []
            for step in range(24):
                if promised + row and draw.random() < 0.4:
                    gone = draw.choice(promised + row)
                    told = []
                    if gone in row:
                        row.remove(gone)
                    else:
                        promised.remove(gone)
                        told = [order for order in row if self.promise(catalog, promised, order)]
                        row = [order for order in row if order not in told]
                    late += len(told)
                    self.assertEqual(found.cancel(gone[0]), tuple([order[0] for order in told]))
                else:
                    order = drawn_order(draw, catalog, NAMES[step])
                    can_be = self.promise(catalog, promised, order)
                    if not can_be and len(row) == 8:
                        self.assertRaises(BadName, found.ask, order)
                        continue
                    self.assertIs(found.ask(order), can_be)
                    if not can_be:
                        row.append(order)
                self.assertEqual((found.promises, found.row), (tuple(promised), tuple(row)))
                self.assertEqual(checks.all_cuts(catalog, found.promises[:4]), [])
        self.assertGreater(late, 30)

    def promise(self, catalog, promised, order):
        """Put an order to those that are promised if a book would."""
        book = Book(catalog)
        for one in promised:
            self.assertTrue(book.ask(one))
        if len(promised) == 12 or not book.ask(order):
            return False
        promised.append(order)
        return True


if __name__ == "__main__":
    unittest.main()
