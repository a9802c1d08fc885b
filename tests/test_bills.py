"""Bills and refunds (points 17 and 18, surehouse/bills.py)."""

import copy
import itertools
import random
import unittest
from fractions import Fraction

from samples import ODD_VALUES, replaced
from surehouse import bills
from surehouse.bills import bill, refund, refunds, total_of
from surehouse.errors import BadBill, BadCatalog, BadNumber, BadOrder, BadPrices

SHOP = (("east",), ("ra",), ("tea", "pot", "cup"), (), ())
PRICES = (("tea", 100, 190), ("pot", 999, 70), ("cup", 0, 999))
ORDER = ("o", "ra", ((("tea",), 3), (("pot", "tea"), 2), (("cup",), 5)), 5, 1)
TOTAL = 357 + 1998 + 140

# Two lines: 3 things for 350, 4 things for 7.
LINES = (("tea", 3, 300, 57, 7, 350), ("pot", 4, 6, 1, 0, 7))


def order_of(*wishes):
    return ("o", "ra", tuple([((item,), count) for item, count in wishes]), 5, 1)


class BillTest(unittest.TestCase):

    def test_defined_in_their_file(self):
        for function in (bill, total_of, refund, refunds):
            self.assertEqual(function.__module__, bills.__name__)

    def test_example(self):
        catalog = (("east",), ("ra",), ("tea",), (), ())
        lines = bill(catalog, (("tea", 100, 190),), ("o", "ra", ((("tea",), 3),), 5, 1), 7)
        self.assertEqual(lines, (("tea", 3, 300, 57, 7, 350),))
        self.assertEqual(refunds(lines, ((1,), (2,))), ((116,), (234,)))

    def test_a_line_for_each_wish(self):
        lines = bill(SHOP, PRICES, ORDER, 0)
        self.assertEqual(lines, (("tea", 3, 300, 57, 0, 357), ("pot", 2, 1998, 140, 0, 2138), ("cup", 5, 0, 0, 0, 0)))
        self.assertEqual(total_of(lines), TOTAL)

    def test_the_first_item_counts(self):
        order = ("o", "ra", ((("pot", "tea"), 1), (("tea", "pot"), 1), (("cup", "tea", "pot"), 1)), 5, 1)
        self.assertEqual([line[:4] for line in bill(SHOP, PRICES, order, 0)],
                         [("pot", 1, 999, 70), ("tea", 1, 100, 19), ("cup", 1, 0, 0)])

    def test_the_tax_is_that_of_the_line(self):
        # One for 5 cents is taxed 0 at 99 thousandths (0.495), ten for 50 are taxed 5 (4.95).
        prices = (("tea", 5, 99), ("pot", 5, 100), ("cup", 1, 0))
        self.assertEqual(bill(SHOP, prices, order_of(("tea", 1), ("tea", 10), ("pot", 1)), 0),
                         (("tea", 1, 5, 0, 0, 5), ("tea", 10, 50, 5, 0, 55), ("pot", 1, 5, 1, 0, 6)))

    def test_the_voucher_is_shared_by_net_and_tax(self):
        prices = (("tea", 100, 0), ("pot", 100, 500), ("cup", 50, 0))
        order = order_of(("tea", 1), ("pot", 1), ("cup", 1))
        # By 100, 150 and 50, not by 100, 100 and 50.
        self.assertEqual([line[4:] for line in bill(SHOP, prices, order, 30)], [(10, 90), (15, 135), (5, 45)])
        self.assertEqual([line[4:] for line in bill(SHOP, prices, order, 1)], [(0, 100), (1, 149), (0, 50)])
        self.assertEqual([line[4:] for line in bill(SHOP, prices, order, 31)], [(10, 90), (16, 134), (5, 45)])

    def test_equal_rests_go_to_the_first_lines(self):
        prices = (("tea", 10, 0), ("pot", 10, 0), ("cup", 10, 0))
        order = order_of(("tea", 1), ("pot", 1), ("cup", 1))
        for voucher, offs in ((0, [0, 0, 0]), (1, [1, 0, 0]), (2, [1, 1, 0]), (10, [4, 3, 3]), (29, [10, 10, 9])):
            self.assertEqual([line[4] for line in bill(SHOP, prices, order, voucher)], offs)

    def test_vouchers_up_to_the_sum_and_more(self):
        lines = bill(SHOP, PRICES, ORDER, TOTAL - 1)
        self.assertEqual(total_of(lines), 1)
        for voucher in (TOTAL, TOTAL + 1, 999999):
            lines = bill(SHOP, PRICES, ORDER, voucher)
            self.assertEqual(lines, (("tea", 3, 300, 57, 357, 0), ("pot", 2, 1998, 140, 2138, 0),
                                     ("cup", 5, 0, 0, 0, 0)))
            self.assertEqual(total_of(lines), 0)

    def test_nothing_to_pay(self):
        for voucher in (0, 1, 999999):
            self.assertEqual(bill(SHOP, PRICES, order_of(("cup", 1), ("cup", 99)), voucher),
                             (("cup", 1, 0, 0, 0, 0), ("cup", 99, 0, 0, 0, 0)))

    def test_limits_of_prices(self):
        for cents, rate in ((0, 0), (999999, 999), (0, 999), (999999, 0)):
            prices = replaced(PRICES, 1, ("pot", cents, rate))
            line = bill(SHOP, prices, order_of(("pot", 99)), 999999)[0]
            net = 99 * cents
            tax = (net * rate + 500) // 1000
            off = min(999999, net + tax)
            self.assertEqual(line, ("pot", 99, net, tax, off, net + tax - off))

    def test_wrong_prices(self):
        wrong = [PRICES[:2], PRICES[::-1], PRICES + PRICES[:1], PRICES + (("mat", 1, 1),), list(PRICES), PRICES[0], (),
                 replaced(PRICES, 2, ("tea", 0, 0)), replaced(PRICES, 2, list(PRICES[2]))]
        for place, values in ((0, ("teas", "", None, 0, ("tea",))), (1, (-1, 10 ** 6, "1", None)),
                              (2, (-1, 1000, "1", None))):
            wrong += [replaced(PRICES, 0, replaced(PRICES[0], place, value)) for value in values + (True, False)]
        wrong += [replaced(PRICES, 0, value) for value in ODD_VALUES + (PRICES[0][:2], PRICES[0] + (1,))]
        for prices in wrong + list(ODD_VALUES):
            with self.subTest(prices=prices):
                self.assertRaises(BadPrices, bill, SHOP, prices, ORDER, 0)

    def test_wrong_vouchers(self):
        for voucher in (-1, 10 ** 6, True, False, None, "1", (), [], {}, (1,), 10 ** 30):
            self.assertRaises(BadNumber, bill, SHOP, PRICES, ORDER, voucher)
            self.assertRaises(BadNumber, bill, SHOP, PRICES, order_of(("cup", 1)), voucher)

    def test_the_error_is_that_of_the_leftmost(self):
        for value in ODD_VALUES:
            self.assertRaises(BadCatalog, bill, value, PRICES, ORDER, 0)
            self.assertRaises(BadCatalog, bill, value, None, None, None)
            self.assertRaises(BadPrices, bill, SHOP, value, None, None)
            self.assertRaises(BadOrder, bill, SHOP, PRICES, value, 0)
            self.assertRaises(BadOrder, bill, SHOP, PRICES, value, None)
        self.assertRaises(BadOrder, bill, SHOP, PRICES, order_of(("mat", 1)), 0)
        self.assertRaises(BadOrder, bill, SHOP, PRICES, order_of(("tea", 100)), -1)
        self.assertRaises(BadOrder, bill, SHOP, PRICES, (ORDER,), 0)

    def test_drawn_bills(self):
        draw = random.Random(17)
        for _ in range(500):
            top = draw.choice((3, 50, 999999))
            prices = tuple([(item, draw.randint(0, top), draw.randint(0, 999)) for item in SHOP[2]])
            wishes = [(draw.choice(SHOP[2]), draw.randint(1, 99)) for _ in range(draw.randint(1, 3))]
            voucher = draw.randint(0, draw.choice((5, 500, 999999)))
            self.holds(prices, wishes, voucher, bill(SHOP, prices, order_of(*wishes), voucher))

    def holds(self, prices, wishes, voucher, lines):
        """The lines are as point 17 says."""
        self.assertEqual([line[:2] for line in lines], wishes)
        sums = []
        for item, count, net, tax, off, due in lines:
            cents, rate = {row[0]: row[1:] for row in prices}[item]
            self.assertEqual(net, count * cents)
            self.assertEqual(tax, int(Fraction(net * rate, 1000) + Fraction(1, 2)))
            self.assertEqual(due, net + tax - off)
            self.assertGreaterEqual(due, 0)
            sums.append(net + tax)
        used = min(voucher, sum(sums))
        self.assertEqual(sum(line[4] for line in lines), used)
        for line, one in zip(lines, sums):
            # Each is off by its share, or by less than one cent more or less.
            self.assertLess(abs(line[4] - Fraction(used * one, max(1, sum(sums)))), 1)
        self.assertEqual(total_of(lines), sum(sums) - used)


class TotalTest(unittest.TestCase):

    def test_total(self):
        self.assertEqual(total_of(LINES), 357)
        self.assertEqual(total_of(LINES[:1]), 350)
        self.assertEqual(total_of((("a", 1, 10 ** 9, 10 ** 9, 0, 2 * 10 ** 9),) * 3), 6 * 10 ** 9)


class RefundTest(unittest.TestCase):

    def test_what_comes_back(self):
        self.assertEqual(refund(LINES, (0, 0), (0, 0)), (0, 0))
        self.assertEqual(refund(LINES, (0, 0), (1, 1)), (116, 1))
        self.assertEqual(refund(LINES, (1, 1), (1, 1)), (117, 2))
        self.assertEqual(refund(LINES, (2, 2), (1, 1)), (117, 2))
        self.assertEqual(refund(LINES, (0, 3), (3, 1)), (350, 2))
        self.assertEqual(refund(LINES, (3, 4), (0, 0)), (0, 0))

    def test_row_by_row(self):
        self.assertEqual(refunds(LINES, ()), ())
        self.assertEqual(refunds(LINES, ((3, 4),)), ((350, 7),))
        self.assertEqual(refunds(LINES, ((1, 1), (1, 1), (1, 1), (0, 1))), ((116, 1), (117, 2), (117, 2), (0, 2)))
        self.assertEqual(refunds(LINES, ((0, 0), (3, 0), (0, 0), (0, 4))), ((0, 0), (350, 0), (0, 0), (0, 7)))

    def test_all_back_is_all_that_was_due(self):
        for due, count in itertools.product((0, 1, 2, 7, 99, 100, 350), (1, 2, 3, 7)):
            lines = (("tea", count, due, 0, 0, due),)
            whole = refunds(lines, ((count,),))
            single = refunds(lines, ((1,),) * count)
            self.assertEqual(whole, ((due,),))
            self.assertEqual(sum(row[0] for row in single), due)
            self.assertEqual([sum(row[0] for row in single[:many]) for many in range(count + 1)],
                             [due * many // count for many in range(count + 1)])

    def test_drawn_rows(self):
        draw = random.Random(18)
        for _ in range(300):
            lines = tuple([self.drawn_line(draw) for _ in range(draw.randint(1, 3))])
            rests, rows = [line[1] for line in lines], []
            while any(rests):
                row = tuple([draw.randint(0, rest) for rest in rests])
                rests = [rest - count for rest, count in zip(rests, row)]
                rows.append(row)
            told = refunds(lines, tuple(rows))
            self.assertEqual(len(told), len(rows))
            self.assertTrue(all(cents >= 0 for row in told for cents in row))
            self.assertEqual([sum(row[place] for row in told) for place in range(len(lines))],
                             [line[5] for line in lines])
            self.assertEqual(sum(sum(row) for row in told), total_of(lines))
            back = tuple([0 for _ in lines])
            for row, cents in zip(rows, told):
                self.assertEqual(refund(lines, back, row), cents)
                back = tuple([one + other for one, other in zip(back, row)])
            self.assertRaises(BadNumber, refunds, lines, tuple(rows) + (tuple([1 for _ in lines]),))

    def drawn_line(self, draw):
        count, net, tax = draw.randint(1, 99), draw.randint(0, 999), draw.randint(0, 99)
        off = draw.randint(0, net + tax)
        return ("tea", count, net, tax, off, net + tax - off)

    def test_wrong_counts(self):
        wrong = [(4, 0), (0, 5), (-1, 0), (0, -1), (True, 0), (0, False), ("1", 0), (None, 0), (1,), (1, 1, 1), (),
                 [1, 1], ((1, 1),), ((1,), (1,)), (10 ** 30, 0)]
        for row in wrong + list(ODD_VALUES):
            with self.subTest(row=row):
                self.assertRaises(BadNumber, refund, LINES, row, (0, 0))
                self.assertRaises(BadNumber, refund, LINES, (0, 0), row)
                self.assertRaises(BadNumber, refunds, LINES, (row,))
                self.assertRaises(BadNumber, refunds, LINES, ((1, 1), row))

    def test_more_back_than_there_was(self):
        for back, more in (((3, 0), (1, 0)), ((2, 0), (2, 0)), ((0, 4), (0, 1)), ((0, 1), (0, 4)), ((1, 0), (3, 0))):
            self.assertRaises(BadNumber, refund, LINES, back, more)
            self.assertRaises(BadNumber, refunds, LINES, (back, more))
        # Not so much as to be no more than the count again.
        self.assertRaises(BadNumber, refund, LINES, (4, 0), (-1, 0))
        self.assertRaises(BadNumber, refund, LINES, (-1, 0), (4, 0))

    def test_rows_of_other_kinds(self):
        for rows in (None, True, 0, "", "11", [], [(1, 1)], {}, (1, 1)):
            self.assertRaises(BadNumber, refunds, LINES, rows)

    def test_values_are_of_tuples_and_arguments_stay(self):
        for function, arguments in ((bill, (SHOP, PRICES, ORDER, 7)), (refund, (LINES, (0, 1), (1, 1))),
                                    (refunds, (LINES, ((0, 1), (1, 1))))):
            before = copy.deepcopy(arguments)
            found = function(*arguments)
            self.assertEqual(found, function(*arguments))
            self.assertEqual(arguments, before)
            self.assertIs(type(found), tuple)


class WrongBillTest(unittest.TestCase):

    def test_limits_of_a_line(self):
        good = [("a", 1, 0, 0, 0, 0), ("a", 99, 0, 0, 0, 0), ("a", 1, 10 ** 9, 0, 0, 10 ** 9),
                ("a", 1, 0, 10 ** 9, 0, 10 ** 9), ("a", 1, 5, 3, 8, 0), ("a", 1, 5, 3, 0, 8), ("a1234567", 1, 5, 3, 6, 2)]
        for line in good:
            self.assertEqual(refund((line,), (0,), (line[1],)), (line[5],))
            self.assertEqual(total_of((line,)), line[5])

    def wrong_lines(self):
        line = LINES[0]
        wrong = [line[:5], line + (0,), list(line), replaced(line, 5, 349), replaced(line, 5, 351), replaced(line, 4, 8),
                 ("tea", 3, 300, 57, 358, -1), ("tea", 3, 300, 57, -1, 358), ("tea", 3, 10 ** 9 + 1, 0, 0, 10 ** 9 + 1),
                 ("tea", 3, 0, 10 ** 9 + 1, 0, 10 ** 9 + 1), ("tea", 3, 10 ** 9 + 1, 0, 10 ** 9 + 1, 0),
                 ("tea", 3, -1, 5, 0, 4), ("tea", 3, 5, -1, 0, 4), replaced(line, 1, 0), replaced(line, 1, 100),
                 ("tea", 1, 0, 0, 0, False), ("tea", 1, 1, 0, 0, True), ("tea", 1, 1, 0, True, 0)]
        for place in range(6):
            wrong += [replaced(line, place, value) for value in (None, True, "1", "", (), [], {}, (1,))]
        wrong += [replaced(line, 0, value) for value in ("Tea", "9tea", "teateatea", 5, ("tea",))]
        return wrong + list(ODD_VALUES)

    def test_wrong_lines(self):
        for line in self.wrong_lines():
            for lines in ((line,), (LINES[0], line), (line, LINES[0], LINES[1])):
                with self.subTest(lines=lines):
                    count = tuple([0 for _ in lines])
                    self.assertRaises(BadBill, total_of, lines)
                    self.assertRaises(BadBill, refund, lines, count, count)
                    self.assertRaises(BadBill, refunds, lines, ())

    def test_none_and_four_lines_and_other_kinds(self):
        for lines in ((), LINES + LINES, list(LINES), LINES[0]) + ODD_VALUES:
            self.assertRaises(BadBill, total_of, lines)
            self.assertRaises(BadBill, refund, lines, (), ())
            self.assertRaises(BadBill, refund, lines, None, None)
            self.assertRaises(BadBill, refunds, lines, None)
        self.assertEqual(total_of(LINES + LINES[:1]), 707)


if __name__ == "__main__":
    unittest.main()
