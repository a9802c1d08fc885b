"""Amounts shared and taxed (point 16, surehouse/sums.py)."""

import copy
import random
import unittest
from fractions import Fraction

from samples import ODD_VALUES
from surehouse import sums
from surehouse.errors import BadNumber
from surehouse.sums import net_of, shared, stepped, taxed

MOST = 10 ** 12
NO_AMOUNTS = tuple(value for value in ODD_VALUES if value != 0 or value is False) + ((), -1, MOST + 1, "1", (1,))
NO_RATES = NO_AMOUNTS + (1000,)
NO_WEIGHTS = ODD_VALUES + ((), (0, 0), (0,) * 40, (1,) * 41, [1, 2], (1, -1), (1, True), (1, False), (1, "1"),
                           (1, MOST + 1), (1, None), (1, (1,)), 1)


def drawn(seed, many):
    """So many pairs (amount, weights)."""
    draw = random.Random(seed)
    rows = []
    for _ in range(many):
        top = draw.choice((1, 2, 5, 100, MOST))
        weights = tuple([draw.choice((0, draw.randint(0, top))) for _ in range(draw.randint(1, 9))])
        rows.append((draw.randint(0, draw.choice((3, 100, MOST))), weights + (draw.randint(1, top),)))
    return rows


class SumsTest(unittest.TestCase):

    def test_defined_in_their_file(self):
        for function in (sums.shared, sums.stepped, sums.taxed, sums.net_of):
            self.assertEqual(function.__module__, "surehouse.sums")

    def test_the_examples_of_the_interface(self):
        self.assertEqual([shared(10, (1, 1, 1)), stepped(10, (1, 1, 1)), taxed(50, 190)], [(4, 3, 3), (3, 3, 4), 10])
        self.assertRaises(BadNumber, shared, 1, ())

    def test_wrong_amounts_and_weights(self):
        for share in (shared, stepped):
            for value in NO_AMOUNTS:
                with self.subTest(amount=value):
                    self.assertRaises(BadNumber, share, value, (1, 2))
            for value in NO_WEIGHTS:
                with self.subTest(weights=value):
                    self.assertRaises(BadNumber, share, 1, value)

    def test_greatest_and_least(self):
        for share in (shared, stepped):
            for amount in (0, 1, MOST - 1, MOST):
                for weight in (1, 7, MOST):
                    self.assertEqual(share(amount, (weight,)), (amount,))
                    self.assertEqual(share(amount, (0, weight, 0)), (0, amount, 0))
                self.assertEqual(sum(share(amount, (MOST,) * 40)), amount)
                self.assertEqual(len(share(amount, (MOST,) * 40)), 40)
            self.assertEqual(share(0, (1, 2, 3)), (0, 0, 0))
            self.assertEqual(share(MOST, (MOST,) * 40), (MOST // 40,) * 40)

    def test_sums_are_the_amount_and_arguments_stay(self):
        for amount, weights in drawn(1, 500):
            for share in (shared, stepped):
                before = copy.deepcopy(weights)
                parts = share(amount, weights)
                self.assertEqual(parts, share(amount, weights))
                self.assertEqual((sum(parts), len(parts), weights), (amount, len(weights), before))
                self.assertIs(type(parts), tuple)
                self.assertTrue(all(type(part) is int and part >= 0 for part in parts))


class SharedTest(unittest.TestCase):

    def test_the_greatest_rests_first(self):
        # The shares are 1.4, 2.8 and 2.8; 0.7, 0.6 and 5.7.
        self.assertEqual(shared(7, (1, 2, 2)), (1, 3, 3))
        self.assertEqual(shared(7, (10, 9, 81)), (1, 0, 6))
        self.assertEqual(shared(10, (1, 2)), (3, 7))
        self.assertEqual(shared(1, (1, 2)), (0, 1))

    def test_of_equal_rests_first_ones_first(self):
        self.assertEqual(shared(1, (1, 1)), (1, 0))
        self.assertEqual(shared(5, (1, 1, 1)), (2, 2, 1))
        self.assertEqual(shared(2, (3, 3, 3, 3)), (1, 1, 0, 0))
        self.assertEqual(shared(1, (0, 1, 1)), (0, 1, 0))
        self.assertEqual(shared(39, (5,) * 40), (1,) * 39 + (0,))

    def test_as_the_point_says(self):
        for amount, weights in drawn(2, 500):
            shares = [Fraction(amount * weight, sum(weights)) for weight in weights]
            parts = [int(share) for share in shares]
            order = sorted(range(len(weights)), key=lambda place: (parts[place] - shares[place], place))
            for place in order[:amount - sum(parts)]:
                parts[place] += 1
            self.assertEqual(shared(amount, weights), tuple(parts))


class SteppedTest(unittest.TestCase):

    def test_as_weights_come(self):
        self.assertEqual(stepped(10, (1, 2, 3)), (1, 4, 5))
        self.assertEqual(stepped(1, (1, 1)), (0, 1))
        self.assertEqual(stepped(1, (1, 1, 0)), (0, 1, 0))
        self.assertEqual(stepped(5, (0, 1, 1)), (0, 2, 3))

    def test_as_the_point_says(self):
        for amount, weights in drawn(3, 500):
            parts = stepped(amount, weights)
            for many in range(len(weights) + 1):
                self.assertEqual(sum(parts[:many]), amount * sum(weights[:many]) // sum(weights))


class TaxTest(unittest.TestCase):

    def test_rounded_a_half_up(self):
        self.assertEqual([taxed(net, 100) for net in (0, 4, 5, 6, 14, 15)], [0, 0, 1, 1, 1, 2])
        self.assertEqual([taxed(1, rate) for rate in (0, 1, 499, 500, 501, 999)], [0, 0, 0, 1, 1, 1])
        self.assertEqual([taxed(3, 500), taxed(1, 500), taxed(2, 250), taxed(2, 249)], [2, 1, 1, 0])
        self.assertEqual(taxed(MOST, 999), 999 * 10 ** 9)
        self.assertEqual(taxed(MOST, 0), 0)

    def test_as_the_point_says(self):
        draw = random.Random(4)
        for _ in range(500):
            net, rate = draw.randint(0, draw.choice((50, MOST))), draw.randint(0, 999)
            # The nearest one, and of two as near the greater.
            self.assertIn(2 * (1000 * taxed(net, rate) - net * rate), range(-999, 1001))

    def test_the_greatest_net(self):
        self.assertEqual([net_of(119, 190), net_of(118, 190), net_of(0, 999), net_of(1, 999), net_of(2, 999)],
                         [100, 99, 0, 0, 1])
        self.assertEqual([net_of(gross, 0) for gross in (0, 1, MOST)], [0, 1, MOST])
        self.assertEqual([net_of(gross, 500) for gross in (0, 1, 2, 3, 4)], [0, 0, 1, 2, 2])

    def test_net_against_the_tax_of_it_and_of_one_more(self):
        draw = random.Random(5)
        rows = [(gross, rate) for gross in range(40) for rate in range(0, 1000, 37)]
        rows += [(gross, rate) for gross in (0, 1, MOST - 1, MOST) for rate in (0, 1, 499, 500, 501, 998, 999)]
        rows += [(draw.randint(0, MOST - 1), draw.randint(0, 999)) for _ in range(500)]
        for gross, rate in rows:
            net = net_of(gross, rate)
            self.assertLessEqual(net + taxed(net, rate), gross)
            if net < MOST:
                self.assertGreater(net + 1 + taxed(net + 1, rate), gross)

    def test_wrong_numbers(self):
        for function in (taxed, net_of):
            for value in NO_AMOUNTS:
                self.assertRaises(BadNumber, function, value, 190)
            for value in NO_RATES:
                self.assertRaises(BadNumber, function, 1, value)
            for value in (0, 1, MOST):
                self.assertIs(type(function(value, 0)), int)


if __name__ == "__main__":
    unittest.main()
