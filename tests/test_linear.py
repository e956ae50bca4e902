"""orderforms.linear: points 6.1 to 6.3."""

import itertools
import math
import unittest

from helper import (
    NO_INTEGERS, VALUES, check_error, check_names, check_steady, check_truth, greater_orders, relation, small_orders,
)
from orderforms.build import antichain, chain, ordinal, parallel
from orderforms.errors import Malformed, Refused
from orderforms.linear import (
    all_linear, common_part, count_before, count_linear, is_linear, linear_at, rank_of_linear,
)
from orderforms.order import Order

EMPTY = Order(0, ())
VEE = Order(3, ((0, 1), (0, 2)))
MIXED = Order(4, ((3, 0), (3, 1), (2, 1)))
SMALL = small_orders(4)
LISTED = SMALL + greater_orders()[:3]
MANY = (antichain(10), greater_orders()[4], greater_orders()[6], greater_orders()[8], Order(10, ((9, 0),)))


def wanted_rows(order):
    """Return the ascending list of the arrangements of the points that keep the order."""
    pairs = relation(order)
    return [
        row for row in itertools.permutations(range(order.n))
        if all(row.index(x) < row.index(y) for x, y in pairs)
    ]


class NamesTest(unittest.TestCase):
    def test_names(self):
        check_names(self, "linear", {
            "is_linear": "(order, row)", "count_linear": "(order)", "all_linear": "(order)",
            "linear_at": "(order, k)", "rank_of_linear": "(order, row)", "count_before": "(order, x, y)",
            "common_part": "(rows)",
        })


class ListTest(unittest.TestCase):
    def test_against_all_arrangements(self):
        for order in LISTED:
            rows = wanted_rows(order)
            self.assertEqual(check_steady(self, count_linear, order), len(rows), str(order))
            told = check_steady(self, all_linear, order)
            self.assertIsInstance(told, tuple)
            self.assertTrue(all(type(row) is tuple for row in told))
            self.assertEqual(list(told), rows, str(order))

    def test_examples(self):
        self.assertEqual((count_linear(EMPTY), all_linear(EMPTY)), (1, ((),)))
        self.assertEqual(all_linear(Order(1, ())), ((0,),))
        self.assertEqual(all_linear(VEE), ((0, 1, 2), (0, 2, 1)))
        self.assertEqual(all_linear(Order(3, ((2, 0),))), ((1, 2, 0), (2, 0, 1), (2, 1, 0)))
        self.assertEqual(all_linear(Order(10, [(x + 1, x) for x in range(9)])), (tuple(range(9, -1, -1)),))
        for n in range(11):
            self.assertEqual((count_linear(antichain(n)), count_linear(chain(n))), (math.factorial(n), 1))
        self.assertEqual(count_linear(parallel(chain(5), chain(5))), math.comb(10, 5))
        self.assertEqual(count_linear(greater_orders()[3]), 48)

    def test_at_most_5040_are_listed(self):
        for order in (antichain(7), ordinal(antichain(7), chain(3))):
            told = all_linear(order)
            self.assertEqual((len(told), len(set(told)), sorted(told)), (5040, 5040, list(told)))
        for order in (antichain(8), parallel(chain(2), antichain(6)), Order(8, ((7, 0), (7, 1), (7, 2))), antichain(10),
                      greater_orders()[6]):
            self.assertGreater(count_linear(order), 5040)
            check_error(self, Refused, all_linear, order, reason="large")
        self.assertEqual(count_linear(Order(8, ((6, 7), (5, 7), (4, 7), (3, 7), (2, 7), (1, 7)))), 5760)
        self.assertEqual(len(all_linear(Order(8, ((6, 7), (5, 7), (4, 7), (3, 7), (2, 7), (1, 7), (0, 7))))), 5040)


class IsLinearTest(unittest.TestCase):
    def test_each_row_of_points(self):
        for order in small_orders(3):
            rows = wanted_rows(order)
            for size in range(5):
                for row in itertools.product(range(-1, 4), repeat=size):
                    check_truth(self, row in rows, is_linear(order, row), str(order), row)
                    check_truth(self, False, is_linear(order, list(row)))

    def test_each_arrangement(self):
        for order in LISTED:
            rows = set(wanted_rows(order))
            for row in itertools.permutations(range(order.n)):
                check_truth(self, row in rows, is_linear(order, row), order, row)
            check_steady(self, is_linear, order, tuple(range(order.n)))

    def test_rows_with_two_points_exchanged(self):
        for order in greater_orders():
            pairs = relation(order)
            row = linear_at(order, 0)
            check_truth(self, True, is_linear(order, row))
            for at in range(order.n - 1):
                other = row[:at] + (row[at + 1], row[at]) + row[at + 2:]
                check_truth(self, (row[at], row[at + 1]) not in pairs, is_linear(order, other), str(order), other)

    def test_told_values(self):
        for row in ((0, 1, 2), (0, 2, 1)):
            check_truth(self, True, is_linear(VEE, row), row)
        wrong = (
            (1, 0, 2), (1, 2, 0), (2, 1, 0), (2, 0, 1), [0, 1, 2], (0, 1), (0, 2), (0, 1, 1), (0, 0, 1, 2), (0, 1, 2, 2),
            (0, 1, 3), (0, 1, 2, 3), (-1, 0, 1), (0, 1, -1), (0, True, 2), (False, 1, 2), (0, 2, True), ("0", 1, 2),
            (0, 1, None), (0, 1, (2,)), (0, 1, [2]), (0, 1, 2**70), (), None, True, 0, 3, "012", VEE, (VEE,), ((0, 1, 2),),
        )
        for row in wrong:
            check_truth(self, False, is_linear(VEE, row), row)

    def test_every_value(self):
        for value in VALUES:
            check_truth(self, type(value) is tuple and value == (), is_linear(EMPTY, value), value)
            one = type(value) is tuple and value == (0,) and type(value[0]) is int
            check_truth(self, one, is_linear(Order(1, ()), value), value)


class RankTest(unittest.TestCase):
    def test_each_rank_of_small_orders(self):
        for order in LISTED:
            for k, row in enumerate(wanted_rows(order)):
                told = check_steady(self, linear_at, order, k)
                self.assertIsInstance(told, tuple)
                self.assertEqual(told, row, (order, k))
                self.assertEqual(check_steady(self, rank_of_linear, order, row), k, (order, row))

    def test_ranks_that_are_none(self):
        for order in LISTED[::7] + list(MANY):
            many = count_linear(order)
            for k in NO_INTEGERS + (-1, -2, -many, many, many + 1, 2**70, -(2**70)):
                check_error(self, Refused, linear_at, order, k, reason="rank")
            self.assertEqual(rank_of_linear(order, linear_at(order, many - 1)), many - 1)
        check_error(self, Refused, linear_at, antichain(2), True, reason="rank")

    def test_rows_that_are_none(self):
        for row in VALUES + ((1, 0, 2), [0, 1, 2], (0, 1), (0, 1, 1), (0, True, 2), (0, 1, 3), (0, 1, 2, 3)):
            check_error(self, Malformed, rank_of_linear, VEE, row)
        for row in ([], (0,), None):
            check_error(self, Malformed, rank_of_linear, EMPTY, row)

    def test_orders_with_many_linear_orders(self):
        for order in MANY:
            many = count_linear(order)
            last = ()
            for k in sorted({0, 1, 2, many // 7, many // 3, many // 2, many - 2, many - 1}):
                row = linear_at(order, k)
                check_truth(self, True, is_linear(order, row))
                self.assertEqual(rank_of_linear(order, row), k)
                self.assertGreater(row, last)
                last = row

    def test_ranks_of_ten_points(self):
        free = antichain(10)
        self.assertEqual(linear_at(free, 0), tuple(range(10)))
        self.assertEqual(linear_at(free, 3628799), tuple(range(9, -1, -1)))
        self.assertEqual(linear_at(free, 999999), (2, 7, 8, 3, 9, 1, 5, 4, 6, 0))
        self.assertEqual(rank_of_linear(free, (2, 7, 8, 3, 9, 1, 5, 4, 6, 0)), 999999)
        self.assertEqual((linear_at(EMPTY, 0), rank_of_linear(EMPTY, ())), ((), 0))


class BeforeTest(unittest.TestCase):
    def test_against_all_rows(self):
        for order in SMALL[:24] + SMALL[24::2] + greater_orders()[:3]:
            rows = wanted_rows(order)
            for x, y in itertools.product(range(order.n), repeat=2):
                wanted = sum(row.index(x) < row.index(y) for row in rows)
                self.assertEqual(check_steady(self, count_before, order, x, y), wanted, (str(order), x, y))

    def test_examples(self):
        self.assertEqual([count_before(VEE, x, y) for x, y in ((0, 1), (1, 0), (1, 2), (2, 2))], [2, 0, 1, 0])
        self.assertEqual(count_before(MIXED, 3, 2), 3)

    def test_both_orders_of_two_points(self):
        for order in MANY[1:4]:
            many = count_linear(order)
            for x, y in itertools.product(range(order.n), range(0, order.n, 2)):
                one, two = count_before(order, x, y), count_before(order, y, x)
                self.assertEqual(one + two, 0 if x == y else many)
                self.assertEqual(one > 0, x != y and not order.less(y, x))


class CommonTest(unittest.TestCase):
    def check_common(self, rows):
        told = check_steady(self, common_part, rows)
        self.assertIsInstance(told, Order)
        points = range(len(rows[0]))
        wanted = {(x, y) for x in points for y in points if all(row.index(x) < row.index(y) for row in rows)}
        self.assertEqual((told.n, relation(told)), (len(rows[0]), wanted))

    def test_one_row_and_several(self):
        for n in range(5):
            rows = list(itertools.permutations(range(n)))
            for row in rows:
                self.check_common((row,))
                self.check_common((row, row))
            for one, two in itertools.product(rows[::2], rows[1::3]):
                self.check_common((one, two))
                self.check_common((one, two, rows[-1]))

    def test_all_linear_orders_give_the_order(self):
        for order in LISTED + [antichain(7), chain(10)]:
            check_truth(self, True, common_part(all_linear(order)) == order)

    def test_examples(self):
        self.assertEqual(str(common_part(((2, 0, 1),))), "3: 0<1 2<0")
        self.assertEqual(str(common_part(((0, 1, 2), (2, 0, 1)))), "3: 0<1")
        self.assertEqual(str(common_part(((),))), "0:")
        self.assertEqual(str(common_part(((), (), ()))), "0:")
        self.assertEqual(str(common_part(((0,),))), "1:")
        self.assertEqual(str(common_part((tuple(range(10)), tuple(range(9, -1, -1))))), "10:")

    def test_other_values(self):
        wrong = (
            (), [], [(0, 1)], [()], ([],), ([0, 1],), ((0, 1), [1, 0]), ([0, 1], (1, 0)), ((0, 1), (0,)), ((0,), (0, 1)),
            ((), (0,)), ((0,), ()), ((0, 0),), ((0, 2),), ((1,),), ((1, 2),), ((-1, 0),), ((0, True),), ((False,),),
            ((False, 1),), ((0, 1), (0, True)), ((0, "1"),), ((0, None),), (("0",),), (((0,),),), ((0, 2**70),),
            ("01",), ("",), (0, 1), (0,), (None,), (VEE,), ((0, 1), None), None, True, 0, "", "01", VEE, {}, ((0, 1), "01"),
        )
        for rows in wrong:
            check_error(self, Malformed, common_part, rows)

    def test_more_than_ten_points(self):
        for n in (11, 12, 100):
            row = tuple(range(n))
            check_error(self, Refused, common_part, (row,), reason="large")
            check_error(self, Refused, common_part, (row, row[::-1]), reason="large")
            for rows in ([row], (list(row),), (row, row[1:]), (row[1:],), (row[:-1] + (True,),), (row, row[:-1] + (0,))):
                check_error(self, Malformed, common_part, rows)


if __name__ == "__main__":
    unittest.main()
