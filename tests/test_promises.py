"""What can be kept (points 4 and 5, surehouse/promises.py)."""

import copy
import itertools
import random
import unittest

import checks
from draws import great_case, small_cases
from samples import CATALOG, ODD_VALUES, letters, replaced
from surehouse import promises
from surehouse.errors import BadCatalog, BadOrder
from surehouse.promises import can_keep, shows_can_keep

# Tea lies in both houses, cups in the west alone; the west is a day farther, and sends nothing to rc.
SHOP = (
    ("east", "west"),
    ("ra", "rb", "rc"),
    ("tea", "cup", "pot"),
    (("east", "ra", 0, 1, 2), ("west", "ra", 1, 2, 5), ("east", "rb", 0, 0, 1), ("west", "rb", 2, 3, 4),
     ("east", "rc", 0, 9, 0)),
    (("s", "east", "tea", 0, 3), ("t", "west", "tea", 2, 4), ("u", "west", "cup", 0, 5), ("v", "east", "pot", 0, 0)),
)
TWO = (("o", "ra", ((("tea",), 5), (("cup", "tea"), 3)), 4, 1), ("p", "rb", ((("tea",), 1),), 0, 9))
PLAN = (("o", 0, "s", 2), ("o", 0, "t", 3), ("o", 1, "u", 3), ("p", 0, "s", 1))


def order(name, region, *wishes, by=4):
    return (name, region, wishes, by, 1)


class CanKeepTest(unittest.TestCase):

    def keeps(self, *orders):
        """The orders can be kept; the sends."""
        word, sends = can_keep(SHOP, orders)
        self.assertEqual(word, "plan")
        self.assertTrue(checks.is_plan(SHOP, orders, sends), sends)
        return sends

    def lacks(self, *orders):
        """The orders cannot be kept; the set of the wishes."""
        word, wishes = can_keep(SHOP, orders)
        self.assertEqual(word, "cut")
        self.assertTrue(checks.is_cut(SHOP, orders, wishes), wishes)
        return set(wishes)

    def test_defined_in_their_file(self):
        for function in (promises.can_keep, promises.shows_can_keep):
            self.assertEqual(function.__module__, "surehouse.promises")

    def test_the_example_of_the_interface(self):
        catalog = (("east",), ("ra",), ("tea",), (("east", "ra", 1, 2, 5),), (("s", "east", "tea", 3, 4),))
        found = [can_keep(catalog, (("o", "ra", ((("tea",), 4),), by, 1),)) for by in (5, 4)]
        self.assertEqual(found, [("plan", (("o", 0, "s", 4),)), ("cut", (("o", 0),))])

    def test_no_orders(self):
        self.assertEqual(can_keep(SHOP, ()), ("plan", ()))
        self.assertEqual(can_keep((("east",), ("ra",), ("tea",), (), ()), ()), ("plan", ()))

    def test_wishes_of_one_item_and_of_several_that_would_do(self):
        self.assertEqual(self.keeps(order("o", "ra", (("cup",), 5))), (("o", 0, "u", 5),))
        self.lacks(order("o", "ra", (("cup",), 6)))
        self.keeps(order("o", "ra", (("cup", "tea"), 12)))
        self.lacks(order("o", "ra", (("cup", "tea"), 13)))
        self.keeps(order("o", "ra", (("pot", "cup", "tea"), 12)))
        self.lacks(order("o", "ra", (("pot", "cup", "tea"), 13)))

    def test_a_supply_that_serves_wishes_of_two_orders(self):
        sends = self.keeps(order("o", "ra", (("cup",), 2)), order("p", "rb", (("cup",), 3)))
        self.assertEqual(set(sends), {("o", 0, "u", 2), ("p", 0, "u", 3)})
        self.assertEqual(self.lacks(order("o", "ra", (("cup",), 3)), order("p", "rb", (("cup",), 3))),
                         {("o", 0), ("p", 0)})

    def test_a_wish_of_two_supplies_and_a_supply_of_two_wishes(self):
        sends = self.keeps(*TWO)
        self.assertEqual({send[2] for send in sends if send[:2] == ("o", 0)}, {"s", "t"})
        self.assertGreaterEqual({send[:2] for send in sends if send[2] == "s"}, {("o", 0), ("p", 0)})

    def test_a_wish_ahead_leaves_its_thing_to_another(self):
        # The first wish may take either tea, the second one only that of the east.
        for first, second in itertools.permutations((order("o", "ra", (("tea",), 4)), order("p", "rc", (("tea",), 3),
                                                                                           by=9))):
            self.assertEqual(set(self.keeps(first, second)), {("o", 0, "t", 4), ("p", 0, "s", 3)})

    def test_a_long_row_of_exchanges(self):
        items = ("a", "b", "c", "d", "e")
        catalog = (("east",), ("ra",), items, (("east", "ra", 0, 0, 0),),
                   tuple(("s" + item, "east", item, 0, 1) for item in items))
        wishes = [(pair, 1) for pair in zip(items, items[1:])] + [(("a",), 1)]
        orders = tuple(order(name, "ra", wish) for name, wish in zip("vwxyz", wishes))
        self.assertEqual(len(can_keep(catalog, orders)[1]), 5)
        self.assertTrue(checks.is_plan(catalog, orders, can_keep(catalog, orders)[1]))

    def test_no_lane_from_a_house_to_the_region(self):
        self.keeps(order("o", "rc", (("tea",), 3), by=9))
        self.assertEqual(self.lacks(order("o", "rc", (("tea",), 4), by=9)), {("o", 0)})
        self.assertEqual(self.lacks(order("o", "rc", (("cup",), 1), by=60)), {("o", 0)})

    def test_a_supply_that_comes_a_day_too_late(self):
        self.keeps(order("o", "ra", (("tea",), 7), by=4))
        self.assertEqual(self.lacks(order("o", "ra", (("tea",), 7), by=3)), {("o", 0)})
        self.keeps(order("o", "ra", (("tea",), 3), by=1))
        self.lacks(order("o", "ra", (("tea",), 1), by=0))

    def test_it_is_the_most_days_of_a_lane_that_count(self):
        self.keeps(order("o", "rb", (("cup",), 1), by=3))
        self.lacks(order("o", "rb", (("cup",), 1), by=2))

    def test_a_supply_with_no_things(self):
        self.assertEqual(self.lacks(order("o", "ra", (("pot",), 1))), {("o", 0)})
        self.assertEqual(self.keeps(order("o", "ra", (("pot", "cup"), 1))), (("o", 0, "u", 1),))

    def test_the_cut_tells_few_of_many_wishes(self):
        lacking = order("p", "rc", (("tea",), 2), (("tea",), 2), by=9)
        self.assertEqual(self.lacks(order("o", "ra", (("cup",), 2)), lacking), {("p", 0), ("p", 1)})

    def test_worth_and_names_do_not_matter(self):
        self.keeps(("s", "ra", ((("tea",), 7),), 4, 0))
        self.keeps(("ra", "ra", ((("tea",), 7),), 4, 999))

    def test_against_a_search_through_all_sends(self):
        words = {"plan": 0, "cut": 0}
        for catalog, orders in small_cases(5, 1500):
            plans = checks.all_plans(catalog, orders)
            word, rows = can_keep(catalog, orders)
            words[word] += 1
            with self.subTest(catalog=catalog, orders=orders):
                self.assertEqual(word, "plan" if plans else "cut")
                if plans:
                    self.assertIn(tuple(sorted(rows)), plans)
                    self.assertTrue(checks.is_plan(catalog, orders, rows))
                    self.assertEqual(checks.all_cuts(catalog, orders), [])
                else:
                    self.assertTrue(checks.is_cut(catalog, orders, rows))
        self.assertGreater(min(words.values()), 300)

    def test_great_ones_are_answered_at_once(self):
        words = set()
        for seed in range(25):
            catalog, orders = great_case(seed)
            word, rows = can_keep(catalog, orders)
            words.add(word)
            check = checks.is_plan if word == "plan" else checks.is_cut
            self.assertTrue(check(catalog, orders, rows))
            self.assertIs(shows_can_keep(catalog, orders, (word, rows)), True)
        self.assertEqual(words, {"plan", "cut"})

    def test_values_are_of_tuples_and_arguments_stay(self):
        for orders in (TWO, (order("o", "rc", (("cup",), 1)),)):
            arguments = (SHOP, orders)
            before = copy.deepcopy(arguments)
            found = can_keep(*arguments)
            self.assertEqual(found, can_keep(*arguments))
            self.assertEqual(arguments, before)
            self.assertIs(type(found), tuple)
            self.assertIs(type(found[1]), tuple)
            for row in found[1]:
                self.assertIs(type(row), tuple)
                self.assertTrue(all(type(part) in (int, str) for part in row))

    def test_errors(self):
        self.assertRaises(BadCatalog, can_keep, (), ())
        many = tuple(replaced(TWO[0], 0, name) for name in letters(13))
        self.assertEqual(can_keep(SHOP, many[:12])[0], "cut")
        for value in ODD_VALUES + (list(TWO), TWO[0], (TWO[0], TWO[0]), many, (replaced(TWO[0], 3, 61),)):
            with self.subTest(value=value):
                self.assertRaises(BadOrder, can_keep, SHOP, value)
                self.assertRaises(BadOrder, shows_can_keep, SHOP, value, ("plan", ()))
        for value in ODD_VALUES + (list(SHOP), replaced(SHOP, 3, None)):
            with self.subTest(value=value):
                self.assertRaises(BadCatalog, can_keep, value, TWO)
                self.assertRaises(BadCatalog, can_keep, value, None)
                self.assertRaises(BadCatalog, shows_can_keep, value, None, None)
                self.assertRaises(BadOrder, shows_can_keep, SHOP, [value], None)
        # Orders of another catalog.
        self.assertRaises(BadOrder, can_keep, CATALOG, (order("o", "rc", (("tea",), 1)),))


class ShowsCanKeepTest(unittest.TestCase):

    def shown(self, orders, *values):
        for value in values:
            with self.subTest(value=value):
                self.assertIs(shows_can_keep(SHOP, orders, value), True)

    def not_shown(self, orders, *values):
        for value in values:
            with self.subTest(value=value):
                self.assertIs(shows_can_keep(SHOP, orders, value), False)

    def test_every_plan_and_every_cut(self):
        draw = random.Random(8)
        for catalog, orders in small_cases(6, 300):
            told = [("plan", sends) for sends in checks.all_plans(catalog, orders)]
            told += [("cut", wishes) for wishes in checks.all_cuts(catalog, orders)]
            self.assertTrue(told)
            for word, rows in told:
                mixed = tuple(draw.sample(rows, len(rows)))
                self.assertIs(shows_can_keep(catalog, orders, (word, mixed)), True)
                self.assertIs(shows_can_keep(catalog, orders, ({"plan": "cut", "cut": "plan"}[word], mixed)), False)

    def test_all_wishes_that_are_no_cut(self):
        for catalog, orders in small_cases(7, 200):
            pairs = checks.wishes_of(orders)
            for many in range(len(pairs) + 1):
                for row in itertools.combinations(pairs, many):
                    self.assertIs(shows_can_keep(catalog, orders, ("cut", row)), checks.is_cut(catalog, orders, row))

    def test_plans_that_are_none(self):
        self.shown(TWO, ("plan", PLAN), ("plan", PLAN[::-1]))
        # A count too few, too many, 0 or True; another supply; more than a supply has.
        for at, (name, place, supply, count) in enumerate(PLAN):
            for other in (count - 1, count + 1, 0, -1, True, False, str(count), None, (count,), 10 ** 30):
                if other is True or other != count:
                    self.not_shown(TWO, ("plan", replaced(PLAN, at, (name, place, supply, other))))
            for other in ("v", "x", "", None, 0, True, [], {}, ("s",), [supply]):
                self.not_shown(TWO, ("plan", replaced(PLAN, at, (name, place, other, count))))
            for other in (2, 3, -1, True, False, "0", None, [], {}, (0,)):
                self.not_shown(TWO, ("plan", replaced(PLAN, at, (name, other, supply, count))))
            for other in ("q", "", None, 0, True, [], {}, (name,), [name]):
                self.not_shown(TWO, ("plan", replaced(PLAN, at, (other, place, supply, count))))
            self.not_shown(TWO, ("plan", PLAN[:at] + PLAN[at + 1:]), ("plan", PLAN + PLAN[at:at + 1]))
            self.not_shown(TWO, ("plan", replaced(PLAN, at, list(PLAN[at]))),
                           ("plan", replaced(PLAN, at, PLAN[at][:3])), ("plan", replaced(PLAN, at, PLAN[at] + (1,))))
        for value in ODD_VALUES:
            self.not_shown(TWO, ("plan", value), ("plan", PLAN + (value,)), ("plan", replaced(PLAN, 1, value)))

    def test_a_send_twice(self):
        one = (("o", "ra", ((("cup",), 4),), 4, 1),)
        self.shown(one, ("plan", (("o", 0, "u", 4),)))
        self.not_shown(one, ("plan", (("o", 0, "u", 2), ("o", 0, "u", 2))),
                       ("plan", (("o", 0, "u", 1), ("o", 0, "u", 3))))

    def test_a_send_of_nothing_or_less_beside_the_others(self):
        self.not_shown(TWO, ("plan", PLAN + (("o", 1, "t", 0),)),
                       ("plan", replaced(PLAN, 2, ("o", 1, "u", 4)) + (("o", 1, "t", -1),)))

    def test_a_supply_that_cannot_serve(self):
        late = (("o", "ra", ((("tea",), 3),), 3, 1),)
        self.shown(late, ("plan", (("o", 0, "s", 3),)))
        self.not_shown(late, ("plan", (("o", 0, "t", 3),)), ("plan", (("o", 0, "s", 2), ("o", 0, "t", 1))),
                       ("plan", (("o", 0, "u", 3),)))
        far = (("o", "rc", ((("tea",), 3),), 60, 1),)
        self.shown(far, ("plan", (("o", 0, "s", 3),)))
        self.not_shown(far, ("plan", (("o", 0, "t", 3),)))

    def test_more_than_a_supply_has(self):
        both = (("o", "ra", ((("tea",), 2), (("tea",), 2)), 4, 1),)
        self.shown(both, ("plan", (("o", 0, "s", 2), ("o", 1, "t", 2))))
        self.not_shown(both, ("plan", (("o", 0, "s", 2), ("o", 1, "s", 2))))

    def test_one_in_place_of_true(self):
        one = (("o", "ra", ((("cup",), 1), (("tea",), 1)), 4, 1),)
        self.shown(one, ("plan", (("o", 0, "u", 1), ("o", 1, "s", 1))))
        self.not_shown(one, ("plan", (("o", 0, "u", True), ("o", 1, "s", 1))),
                       ("plan", (("o", 0, "u", 1), ("o", True, "s", 1))),
                       ("plan", (("o", False, "u", 1), ("o", 1, "s", 1))))

    def test_cuts_that_are_none(self):
        orders = (("o", "ra", ((("cup",), 3), (("cup",), 3)), 4, 1), ("p", "rb", ((("tea",), 1),), 4, 1))
        cut = (("o", 0), ("o", 1))
        self.shown(orders, ("cut", cut), ("cut", cut[::-1]))
        self.not_shown(orders, ("cut", cut + (("p", 0),)), ("cut", cut[:1]), ("cut", ()),
                       ("cut", cut + cut[:1]), ("cut", cut[:1] + cut[:1]), ("cut", (("o", 0), ("o", True))),
                       ("cut", (("o", False), ("o", 1))), ("cut", cut + (("o", 2),)), ("cut", cut + (("q", 0),)),
                       ("cut", cut + (("o", -1),)), ("cut", cut + (("p", 1),)), ("cut", list(cut)),
                       ("cut", cut + (("p", 0, []),)), ("cut", cut + ((["p"], 0),)), ("Cut", cut), (True, cut),
                       (None, cut), ("", cut), (["cut"], cut),
                       ("cut", (["o", 0], ("o", 1))), ("cut", (("o", 0, 3), ("o", 1, 3))), ("cut", (("o",), ("o", 1))))
        for value in ODD_VALUES:
            self.not_shown(orders, ("cut", value), ("cut", cut + (value,)), ("cut", (("o", 0), ("o", value))),
                           ("cut", ((value, 0), ("o", 1))))

    def test_a_cut_with_room_just_enough_or_one_too_few(self):
        self.not_shown((order("o", "ra", (("cup",), 5)),), ("cut", (("o", 0),)))
        self.shown((order("o", "ra", (("cup",), 6)),), ("cut", (("o", 0),)))

    def test_other_values(self):
        self.not_shown(TWO, *ODD_VALUES)
        self.not_shown((), *ODD_VALUES)
        self.shown((), ("plan", ()))
        self.not_shown((), ("cut", ()), ("plan", []), ["plan", ()], ("plan",), ("plan", (), ()), ("Plan", ()))
        self.not_shown(TWO, ["plan", PLAN], ("plan", list(PLAN)), ("plan", PLAN, 8), ("plan",), PLAN, (PLAN, "plan"),
                       {"plan": PLAN}, "plan", (True, PLAN), (None, PLAN), (["plan"], PLAN), ("plan", dict()))


if __name__ == "__main__":
    unittest.main()
