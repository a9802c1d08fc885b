"""Bundles (point 15, surehouse/bundles.py)."""

import copy
import unittest

from samples import CATALOG, ODD_VALUES, letters, replaced
from surehouse import bundles
from surehouse.bundles import made_of, opened
from surehouse.errors import BadCatalog, BadItem, BadOrder

SET = ("set", (("pot", 1), ("tea", 2)))
BOX = ("box", (("set", 3), ("cup", 6), ("tea", 1)))
CASE = ("case", (("box", 2), ("set", 1)))
BUNDLES = (SET, BOX, CASE)


class BundlesTest(unittest.TestCase):

    def test_defined_in_their_file(self):
        for function in (bundles.made_of, bundles.opened):
            self.assertEqual(function.__module__, "surehouse.bundles")


class MadeOfTest(unittest.TestCase):

    def good(self, *values):
        """Each of the values is bundles of the catalog."""
        for value in values:
            with self.subTest(value=value):
                self.assertEqual(made_of(CATALOG, value, "tea", 1), (("tea", 1),))

    def bad(self, *values):
        """None of the values is bundles of the catalog."""
        for value in values:
            with self.subTest(value=value):
                self.assertRaises(BadItem, made_of, CATALOG, value, "tea", 1)

    def test_the_example_of_the_interface(self):
        catalog = (("east",), ("ra",), ("tea", "pot"), (), ())
        found = made_of(catalog, (("set", (("pot", 1), ("tea", 2))),), "set", 3)
        self.assertEqual(found, (("tea", 6), ("pot", 3)))

    def test_an_item_is_made_of_itself(self):
        for item in CATALOG[2]:
            self.assertEqual(made_of(CATALOG, (), item, 7), ((item, 7),))
            self.assertEqual(made_of(CATALOG, BUNDLES, item, 1), ((item, 1),))

    def test_bundles_of_items_in_the_order_of_the_catalog(self):
        self.assertEqual(made_of(CATALOG, BUNDLES, "set", 1), (("tea", 2), ("pot", 1)))
        backward = ("back", (("jar", 4), ("mat", 3), ("cup", 2), ("tea", 1)))
        self.assertEqual(made_of(CATALOG, (backward,), "back", 2), (("tea", 2), ("cup", 4), ("mat", 6), ("jar", 8)))

    def test_bundles_of_bundles_that_stand_ahead(self):
        self.assertEqual(made_of(CATALOG, BUNDLES, "box", 1), (("tea", 7), ("pot", 3), ("cup", 6)))
        self.assertEqual(made_of(CATALOG, BUNDLES, "case", 5), (("tea", 80), ("pot", 35), ("cup", 60)))

    def test_six_bundles_one_upon_another(self):
        names = letters(6)
        nested = [("a", (("mat", 9),))]
        for ahead, name in zip(names, names[1:]):
            nested.append((name, ((ahead, 9),)))
        self.assertEqual(made_of(CATALOG, tuple(nested), "f", 99), (("mat", 99 * 9 ** 6),))

    def test_the_value_is_of_tuples_through_and_through(self):
        found = made_of(CATALOG, BUNDLES, "case", 1)
        self.assertIsInstance(found, tuple)
        for pair in found:
            self.assertIsInstance(pair, tuple)

    def test_equal_arguments_have_equal_answers_and_stay(self):
        arguments = (CATALOG, BUNDLES, "case", 2)
        before = copy.deepcopy(arguments)
        self.assertEqual(made_of(*arguments), made_of(*arguments))
        self.assertEqual(arguments, before)

    def test_counts(self):
        for count in (1, 2, 9, 10, 98, 99):
            self.assertEqual(made_of(CATALOG, BUNDLES, "set", count), (("tea", 2 * count), ("pot", count)))
        for count in (-1, 0, 100, "1", (1,)) + ODD_VALUES:
            with self.subTest(count=count):
                self.assertRaises(BadItem, made_of, CATALOG, BUNDLES, "set", count)

    def test_names_of_no_item_or_bundle(self):
        for name in ("east", "ra", "s", "sets", ("set",), ["set"], SET, {"set": 1}) + ODD_VALUES:
            with self.subTest(name=name):
                self.assertRaises(BadItem, made_of, CATALOG, BUNDLES, name, 1)
        self.assertRaises(BadItem, made_of, CATALOG, (), "set", 1)

    def test_at_most_six_bundles(self):
        many = tuple([(name, (("tea", 1),)) for name in letters(7)])
        self.good((), many[:1], many[:5], many[:6])
        self.bad(many)

    def test_one_to_four_parts(self):
        parts = tuple([(item, 1) for item in CATALOG[2]])
        self.good(*[(("set", parts[:many]),) for many in (1, 2, 3, 4)])
        self.bad((("set", ()),), (("set", parts),), (("set", list(parts[:2])),))

    def test_counts_of_parts(self):
        self.good(*[(("set", (("tea", count),)),) for count in (1, 8, 9)])
        wrong = (-1, 10, 99, "1", (1,)) + ODD_VALUES
        self.bad(*[(("set", (("tea", count),)),) for count in wrong])
        self.bad(*[(("set", (("pot", 1), ("tea", count))),) for count in wrong])

    def test_names_of_bundles(self):
        one = (("tea", 1),)
        self.good(*[((name, one),) for name in ("a", "z9", "abcdefgh", "east", "ra")])
        wrong = ("0", "1a", "abcdefghi", "Set", "a_b", "a b", "tea", "cup", "jar") + ODD_VALUES
        self.bad(*[((name, one),) for name in wrong])
        self.bad((SET, SET), (SET, ("set", one)), (SET, ("other", one), ("set", one)))

    def test_parts_stand_ahead(self):
        self.good((SET, ("box", (("set", 1),))))
        self.bad((("set", (("set", 1),)),), (("set", (("tea", 1), ("set", 1))),),
                 (("box", (("set", 1),)), SET), (SET, ("box", (("case", 1),)), ("case", (("set", 1),))))

    def test_names_of_parts(self):
        self.bad(*[(("set", ((name, 1),)),) for name in ("rice", "east", "ra", "s") + ODD_VALUES])
        self.bad((("set", (("tea", 1), ("tea", 1))),), (("set", (("tea", 1), ("pot", 1), ("tea", 2))),),
                 (SET, ("box", (("set", 1), ("set", 2)))))

    def test_bundles_of_every_other_kind(self):
        self.bad(*[value for value in ODD_VALUES if value != ()])
        self.bad(list(BUNDLES), SET, "set", (list(SET),), (SET[:1],), (SET + (1,),), (SET, None))
        self.bad(*[(value,) for value in ODD_VALUES])
        self.bad(*[(("set", value),) for value in ODD_VALUES])
        self.bad(*[(("set", (value,)),) for value in ODD_VALUES])
        self.bad((("set", (["tea", 1],)),), (("set", (("tea",),)),), (("set", (("tea", 1, 1),)),))

    def test_catalogs_of_every_other_kind(self):
        for value in ODD_VALUES + ((), list(CATALOG), replaced(CATALOG, 2, ())):
            with self.subTest(value=value):
                self.assertRaises(BadCatalog, made_of, value, BUNDLES, "set", 1)

    def test_the_error_is_that_of_the_leftmost(self):
        for value in ODD_VALUES:
            with self.subTest(value=value):
                self.assertRaises(BadCatalog, made_of, (), value, value, value)
                self.assertRaises(BadItem, made_of, CATALOG, [value], "set", value)
                self.assertRaises(BadItem, made_of, CATALOG, BUNDLES, value, value)


class OpenedTest(unittest.TestCase):

    def wishes(self, *wants):
        return opened(CATALOG, BUNDLES, "o", "ra", wants, 5, 1)[2]

    def bad(self, *values):
        """None of the values is wants."""
        for value in values:
            with self.subTest(value=value):
                self.assertRaises(BadOrder, opened, CATALOG, BUNDLES, "o", "ra", value, 5, 1)

    def test_an_order_for_items_and_bundles(self):
        found = opened(CATALOG, BUNDLES, "o", "ra", (("cup", 4), ("set", 3)), 5, 1)
        self.assertEqual(found, ("o", "ra", ((("tea",), 6), (("pot",), 3), (("cup",), 4)), 5, 1))
        found = opened(CATALOG, BUNDLES, "o", "ra", (("tea", 4), ("pot", 3)), 60, 999)
        self.assertEqual(found, ("o", "ra", ((("tea",), 4), (("pot",), 3)), 60, 999))

    def test_one_wish_for_each_item_in_the_order_of_the_catalog(self):
        self.assertEqual(self.wishes(("jar", 1), ("cup", 2), ("tea", 3)),
                         ((("tea",), 3), (("cup",), 2), (("jar",), 1)))
        self.assertEqual(self.wishes(("case", 1), ("cup", 9)),
                         ((("tea",), 16), (("pot",), 7), (("cup",), 21)))

    def test_a_want_named_twice(self):
        self.assertEqual(self.wishes(("tea", 4), ("tea", 5)), ((("tea",), 9),))
        self.assertEqual(self.wishes(("set", 1), ("tea", 5), ("set", 2)), ((("tea",), 11), (("pot",), 3)))

    def test_one_to_six_wants(self):
        for many in (1, 2, 5, 6):
            self.assertEqual(self.wishes(*([("tea", 2)] * many)), ((("tea",), 2 * many),))
        self.bad((), tuple([("tea", 2)] * 7))

    def test_at_most_three_items(self):
        self.assertEqual(len(self.wishes(("tea", 1), ("pot", 1), ("mat", 1))), 3)
        self.assertEqual(len(self.wishes(("box", 1))), 3)
        self.bad((("tea", 1), ("pot", 1), ("mat", 1), ("jar", 1)), (("box", 1), ("mat", 1)), (("box", 1), ("jar", 9)))

    def test_at_most_ninety_nine_of_one(self):
        self.assertEqual(self.wishes(("tea", 99)), ((("tea",), 99),))
        self.assertEqual(self.wishes(("tea", 50), ("tea", 49)), ((("tea",), 99),))
        self.assertEqual(self.wishes(("set", 49), ("tea", 1)), ((("tea",), 99), (("pot",), 49)))
        self.assertEqual(self.wishes(("pot", 99), ("tea", 99), ("jar", 99)),
                         ((("tea",), 99), (("pot",), 99), (("jar",), 99)))
        self.bad((("tea", 50), ("tea", 50)), (("set", 50),), (("set", 49), ("tea", 2)),
                 (("pot", 1), ("tea", 99), ("tea", 1)))

    def test_counts_of_wants(self):
        for count in (1, 9, 98, 99):
            self.assertEqual(self.wishes(("tea", count)), ((("tea",), count),))
        for count in (-1, 0, 100, "1", (1,)) + ODD_VALUES:
            self.bad((("tea", count),), (("pot", 1), ("tea", count)), (("tea", 5), ("tea", count)))

    def test_wants_of_no_item_or_bundle(self):
        for name in ("rice", "east", "ra", "s", ("set",), ["set"]) + ODD_VALUES:
            self.bad(((name, 1),), (("tea", 1), (name, 1)))

    def test_wants_of_every_other_kind(self):
        self.bad(*ODD_VALUES)
        self.bad([("tea", 1)], ("tea", 1), (["tea", 1],), (("tea",),), (("tea", 1, 1),), {"tea": 1}, "tea")
        for value in ODD_VALUES:
            self.bad((value,), (("tea", 1), value))

    def test_nothing_else_is_asked_of_it(self):
        wishes = ((("tea",), 1),)
        for value in ODD_VALUES + ("rc", 61, 1000, "o"):
            with self.subTest(value=value):
                found = opened(CATALOG, BUNDLES, value, value, (("tea", 1),), value, value)
                self.assertEqual(found, (value, value, wishes, value, value))

    def test_without_bundles(self):
        self.assertEqual(opened(CATALOG, (), "o", "rb", (("mat", 8),), 0, 0), ("o", "rb", ((("mat",), 8),), 0, 0))
        self.assertRaises(BadOrder, opened, CATALOG, (), "o", "rb", (("set", 8),), 0, 0)

    def test_catalogs_and_bundles_of_every_other_kind(self):
        for value in ODD_VALUES + ((),):
            with self.subTest(value=value):
                self.assertRaises(BadCatalog, opened, value, BUNDLES, "o", "ra", (("tea", 1),), 5, 1)
        for value in ODD_VALUES + ([], (SET, SET), (CASE, SET)):
            with self.subTest(value=value):
                self.assertRaises(BadItem, opened, CATALOG, value, "o", "ra", (("tea", 1),), 5, 1)

    def test_the_error_is_that_of_the_leftmost(self):
        for value in ODD_VALUES:
            with self.subTest(value=value):
                self.assertRaises(BadCatalog, opened, (), value, value, value, value, value, value)
                self.assertRaises(BadItem, opened, CATALOG, [value], value, value, value, value, value)
                self.assertRaises(BadOrder, opened, CATALOG, BUNDLES, value, value, value, value, value)

    def test_the_value_is_of_tuples_and_arguments_stay(self):
        arguments = (CATALOG, BUNDLES, ["o"], {"ra": 1}, (("set", 1),), [5], [1])
        before = copy.deepcopy(arguments)
        found = opened(*arguments)
        self.assertEqual(found, opened(*arguments))
        self.assertEqual(arguments, before)
        self.assertIsInstance(found, tuple)
        self.assertIsInstance(found[2], tuple)
        for wish in found[2]:
            self.assertIsInstance(wish, tuple)
            self.assertIsInstance(wish[0], tuple)


if __name__ == "__main__":
    unittest.main()
