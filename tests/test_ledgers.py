"""Ledgers (point 19, surehouse/ledgers.py)."""

import random
import unittest

from samples import ODD_VALUES, letters
from surehouse import ledgers
from surehouse.errors import BadAccounts, BadEntries, BadKey, BadName, TooLow
from surehouse.ledgers import Ledger

ACCOUNTS = (("till", False), ("world", True), ("safe", False))
PAID = (("world", -5), ("till", 5))


def pay(cents, one="world", other="till"):
    return ((one, -cents), (other, cents))


class LedgerTest(unittest.TestCase):

    def setUp(self):
        self.ledger = Ledger(ACCOUNTS)

    def stands(self, till, world, safe, *keys):
        """These are the balances and keys."""
        balances = (("till", till), ("world", world), ("safe", safe))
        self.assertEqual(self.ledger.balances, balances)
        self.assertEqual([self.ledger.balance(name) for name in ("till", "world", "safe")], [till, world, safe])
        self.assertEqual(self.ledger.keys_told, keys)
        self.assertEqual(self.ledger.as_of(len(keys)), balances)

    def test_defined_in_its_file(self):
        self.assertEqual(Ledger.__module__, ledgers.__name__)
        for name in ("post", "turn_back", "balance", "as_of", "balances", "keys_told"):
            self.assertIn(name, vars(Ledger))

    def test_examples(self):
        ledger = Ledger((("till", False), ("world", True)))
        self.assertEqual([ledger.post("k", PAID), ledger.post("k", PAID), ledger.balances],
                         [True, False, (("till", 5), ("world", -5))])
        with self.assertRaises(TooLow) as caught:
            Ledger((("till", False), ("world", True))).post("k", (("till", -1), ("world", 1)))
        self.assertEqual(caught.exception.name, "till")

    def test_a_new_one(self):
        self.stands(0, 0, 0)
        self.assertEqual(self.ledger.as_of(0), self.ledger.balances)

    def test_posts(self):
        self.assertIs(self.ledger.post("a", PAID), True)
        self.stands(5, -5, 0, "a")
        self.assertIs(self.ledger.post("b", (("till", -2), ("safe", 2))), True)
        self.stands(3, -5, 2, "a", "b")
        self.assertIs(self.ledger.post("0", (("safe", -2), ("till", -3), ("world", 5))), True)
        self.stands(0, 0, 0, "a", "b", "0")

    def test_the_same_key_again(self):
        self.ledger.post("a", PAID)
        for _ in range(3):
            self.assertIs(self.ledger.post("a", PAID), False)
            self.stands(5, -5, 0, "a")
        for entries in (PAID[::-1], pay(6), pay(5, "world", "safe"), (), PAID + (("safe", 0),)):
            self.assertRaises(BadKey, self.ledger.post, "a", entries)
            self.stands(5, -5, 0, "a")
        self.assertIs(self.ledger.post("b", PAID), True)
        self.stands(10, -10, 0, "a", "b")

    def test_the_same_key_again_when_it_could_not_be_posted_any_more(self):
        self.ledger.post("a", PAID)
        self.ledger.post("b", pay(5, "till", "safe"))
        self.ledger.post("c", pay(5, "safe", "world"))
        self.assertIs(self.ledger.post("b", pay(5, "till", "safe")), False)
        self.assertRaises(TooLow, self.ledger.post, "d", pay(5, "till", "safe"))
        self.stands(0, 0, 0, "a", "b", "c")

    def test_keys(self):
        told = ("k", "A b\n-", "0", "x" * 40, "-", " ")
        for many, key in enumerate(told):
            self.assertIs(self.ledger.post(key, PAID), True)
            self.stands(5 * many + 5, -5 * many - 5, 0, *told[:many + 1])
        for key in ("", "x" * 41, None, True, 0, 5, ("k",), ["k"], {"k": 1}, (), 10 ** 30):
            self.assertRaises(BadKey, self.ledger.post, key, PAID)
            self.assertRaises(BadKey, self.ledger.post, key, None)
        self.stands(30, -30, 0, *told)

    def test_entries(self):
        self.assertIs(self.ledger.post("void", ()), True)
        self.assertIs(self.ledger.post("twice", (("till", 3), ("till", 4), ("world", -7))), True)
        self.assertIs(self.ledger.post("zero", (("safe", 0),)), True)
        # Below 0 in between, not behind all of the entries.
        self.assertIs(self.ledger.post("down", (("safe", -3), ("safe", 4), ("world", -1))), True)
        self.assertIs(self.ledger.post("twenty", PAID * 10), True)
        self.assertIs(self.ledger.post("great", pay(10 ** 20)), True)
        self.stands(57 + 10 ** 20, -58 - 10 ** 20, 1, "void", "twice", "zero", "down", "twenty", "great")

    def test_wrong_entries(self):
        wrong = [PAID * 10 + (("safe", 0),), (("till", 5),), (("till", 5), ("world", -4)), list(PAID), (list(PAID[0]),),
                 PAID[0], (("till", 0, 0),), (("till",),), ("till", "safe"), (("till", "0"),), (("till", None),),
                 (("till", True), ("world", -1)), (("till", False),), (("till", 1), ("world", -1), "x")]
        for entries in wrong + [value for value in ODD_VALUES if value != ()]:
            with self.subTest(entries=entries):
                self.assertRaises(BadEntries, self.ledger.post, "k", entries)
        for name in ("bank", "", "Till", None, True, 0, (), ["till"], {"till": 1}, ("till",)):
            self.assertRaises(BadName, self.ledger.post, "k", ((name, 0),))
            self.assertRaises(BadName, self.ledger.post, "k", PAID + ((name, 1), ("world", -1)))
        self.stands(0, 0, 0)

    def test_too_low(self):
        cases = [((("till", -1), ("world", 1)), "till"), ((("safe", -1), ("till", 1)), "safe"),
                 ((("safe", -1), ("till", -1), ("world", 2)), "till"), ((("till", 5), ("till", -6), ("world", 1)), "till")]
        for entries, name in cases:
            with self.assertRaises(TooLow) as caught:
                self.ledger.post("k", entries)
            self.assertEqual(caught.exception.name, name)
            self.stands(0, 0, 0)
        self.ledger.post("a", PAID)
        self.assertRaises(TooLow, self.ledger.post, "b", pay(6, "till", "safe"))
        self.stands(5, -5, 0, "a")
        # The key does not stand: it may be posted with other entries.
        self.assertIs(self.ledger.post("b", pay(5, "till", "safe")), True)
        self.stands(0, -5, 5, "a", "b")

    def test_the_first_account_is_the_first_of_the_ledger(self):
        for accounts in (ACCOUNTS, ACCOUNTS[::-1]):
            with self.assertRaises(TooLow) as caught:
                Ledger(accounts).post("k", (("safe", -1), ("till", -1), ("world", 2)))
            self.assertEqual(caught.exception.name, accounts[0][0])

    def test_turned_back(self):
        self.ledger.post("a", PAID)
        self.ledger.post("b", pay(2, "till", "safe"))
        self.assertIs(self.ledger.turn_back("b"), True)
        self.stands(5, -5, 0, "a", "b", "b-")
        self.assertIs(self.ledger.turn_back("b"), False)
        self.stands(5, -5, 0, "a", "b", "b-")
        self.assertIs(self.ledger.post("b-", (("till", 2), ("safe", -2))), False)
        self.assertIs(self.ledger.turn_back("b-"), True)
        self.stands(3, -5, 2, "a", "b", "b-", "b--")

    def test_turned_back_where_the_other_key_stands(self):
        self.ledger.post("a", PAID)
        self.ledger.post("a-", PAID)
        self.assertRaises(BadKey, self.ledger.turn_back, "a")
        self.ledger.post("b", pay(1))
        self.ledger.post("b-", (("world", 1), ("till", -1)))
        self.assertIs(self.ledger.turn_back("b"), False)
        self.stands(10, -10, 0, "a", "a-", "b", "b-")

    def test_not_turned_back(self):
        self.ledger.post("a", PAID)
        self.ledger.post("x" * 40, PAID)
        self.ledger.post("y" * 39, PAID)
        for key in ("b", "", "a-", "x" * 40, "z" * 40, "x" * 41, None, True, 0, (), ["a"], {"a": 1}):
            self.assertRaises(BadKey, self.ledger.turn_back, key)
        self.stands(15, -15, 0, "a", "x" * 40, "y" * 39)
        self.assertIs(self.ledger.turn_back("y" * 39), True)
        self.stands(10, -10, 0, "a", "x" * 40, "y" * 39, "y" * 39 + "-")

    def test_turned_back_too_low(self):
        self.ledger.post("a", PAID)
        self.ledger.post("b", pay(3, "till", "safe"))
        with self.assertRaises(TooLow) as caught:
            self.ledger.turn_back("a")
        self.assertEqual(caught.exception.name, "till")
        self.stands(2, -5, 3, "a", "b")
        self.ledger.turn_back("b")
        self.assertIs(self.ledger.turn_back("a"), True)
        self.stands(0, 0, 0, "a", "b", "b-", "a-")

    def test_balances_of_no_account(self):
        for name in ("bank", "", "Till", None, True, 0, (), ["till"], {"till": 1}, ("till",)):
            self.assertRaises(BadName, self.ledger.balance, name)

    def test_as_of(self):
        self.ledger.post("a", PAID)
        self.ledger.post("a", PAID)
        self.ledger.post("b", pay(2, "till", "safe"))
        self.ledger.turn_back("b")
        self.assertEqual([tuple([cents for _, cents in self.ledger.as_of(many)]) for many in range(4)],
                         [(0, 0, 0), (5, -5, 0), (3, -5, 2), (5, -5, 0)])
        for many in (4, -1, True, False, None, "1", (), [], {}, 10 ** 30):
            self.assertRaises(BadKey, self.ledger.as_of, many)

    def test_limits_of_accounts(self):
        many = tuple([(name, True) for name in letters(20)])
        self.assertEqual(Ledger(many).balances, tuple([(name, 0) for name in letters(20)]))
        self.assertEqual(Ledger(many[:1]).balances, (("a", 0),))
        self.assertEqual(Ledger((("a2345678", False),)).balances, (("a2345678", 0),))
        one = Ledger((("a", False),))
        self.assertRaises(BadEntries, one.post, "k", (("a", 1),))
        self.assertIs(one.post("k", (("a", 1), ("a", -1))), True)

    def test_wrong_accounts(self):
        many = tuple([(name, True) for name in letters(21)])
        wrong = [(), many, list(many[:2]), many[0], (("a", True), ("a", True)), (("a", True), ("a", False)), (("a",),),
                 (("a", True, True),), (["a", True],), (("a", 1),), (("a", 0),), (("a", None),), (("a", "True"),),
                 (("", True),), (("A", True),), (("1a", True),), (("a23456789", True),), ((None, True),), ((True, True),)]
        for accounts in wrong + list(ODD_VALUES):
            with self.subTest(accounts=accounts):
                self.assertRaises(BadAccounts, Ledger, accounts)

    def test_told_values_are_of_tuples(self):
        self.ledger.post("a", PAID)
        for told in (self.ledger.balances, self.ledger.keys_told, self.ledger.as_of(1)):
            self.assertIs(type(told), tuple)
        self.assertTrue(all(type(row) is tuple for row in self.ledger.balances + self.ledger.as_of(0)))


class DrawnTest(unittest.TestCase):

    def test_against_a_plain_list_of_postings(self):
        draw = random.Random(19)
        for _ in range(60):
            accounts = tuple([(name, draw.random() < 0.4) for name in letters(draw.randint(1, 4))])
            ledger, posted = Ledger(accounts), []
            for _ in range(60):
                self.do_one(draw, accounts, ledger, posted)
                self.assertEqual(ledger.keys_told, tuple([key for key, _ in posted]))
                self.assertEqual(ledger.balances, self.sums(accounts, posted))
                many = draw.randint(0, len(posted))
                self.assertEqual(ledger.as_of(many), self.sums(accounts, posted[:many]))
                self.assertEqual(sum(cents for _, cents in ledger.balances), 0)
                self.assertTrue(all(may or ledger.balance(name) >= 0 for name, may in accounts))

    def sums(self, accounts, posted):
        return tuple([(name, sum(cents for _, entries in posted for one, cents in entries if one == name))
                      for name, _ in accounts])

    def do_one(self, draw, accounts, ledger, posted):
        """Post or turn back something, and say of it in the plain list what the point says."""
        key = draw.choice(("a", "b", "c", "d", "e")) + "-" * draw.choice((0, 0, 0, 1))
        if draw.random() < 0.3:
            if key not in dict(posted):
                self.assertRaises(BadKey, ledger.turn_back, key)
                return
            entries = tuple([(name, -cents) for name, cents in dict(posted)[key]])
            self.told(accounts, ledger.turn_back, (key,), posted, key + "-", entries)
            return
        rows = [(draw.choice(accounts)[0], draw.randint(-2, 2)) for _ in range(draw.randint(0, 3))]
        rows.append((draw.choice(accounts)[0], -sum(cents for _, cents in rows)))
        self.told(accounts, ledger.post, (key, tuple(rows)), posted, key, tuple(rows))

    def told(self, accounts, function, arguments, posted, key, entries):
        """A call posts these entries under this key, or tells why not."""
        low = [name for (name, cents), (_, may) in zip(self.sums(accounts, posted + [(key, entries)]), accounts)
               if cents < 0 and not may]
        if key in dict(posted):
            if dict(posted)[key] == entries:
                self.assertIs(function(*arguments), False)
            else:
                self.assertRaises(BadKey, function, *arguments)
        elif low:
            with self.assertRaises(TooLow) as caught:
                function(*arguments)
            self.assertEqual(caught.exception.name, low[0])
        else:
            self.assertIs(function(*arguments), True)
            posted.append((key, entries))


if __name__ == "__main__":
    unittest.main()
