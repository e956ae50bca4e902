"""orderforms.dimension: points 6.4 to 6.6."""

import itertools
import unittest

from helper import (
    VALUES, check_error, check_names, check_steady, check_truth, greater_orders, relation, small_orders,
)
from orderforms.build import antichain, chain, ordinal, parallel
from orderforms.dimension import dimension, is_realizer, least_realizer
from orderforms.errors import Refused
from orderforms.linear import all_linear
from orderforms.order import Order

EMPTY = Order(0, ())
VEE = Order(3, ((0, 1), (0, 2)))
CROWN = Order(6, ((0, 4), (0, 5), (1, 3), (1, 5), (2, 3), (2, 4)))
TURNED_CROWN = CROWN.turned().renumbered((4, 0, 2, 5, 1, 3))
SEVEN = [Order(7, row) for row in (
    ((6, 5), (5, 4), (6, 3), (3, 2), (1, 0)), ((0, 4), (0, 6), (1, 4), (1, 6), (2, 4), (2, 5), (3, 5), (3, 6)),
)]


def rows_of(order):
    """Return the ascending list of the linear orders above an order, each with the set of its pairs as a number."""
    pairs = relation(order)
    found = []
    for row in itertools.permutations(range(order.n)):
        if all(row.index(x) < row.index(y) for x, y in pairs):
            found.append((row, number_of(order.n, itertools.combinations(row, 2))))
    return found


def number_of(n, pairs):
    """Return a set of pairs as a number."""
    return sum(2 ** (n * x + y) for x, y in pairs)


def wanted_realizer(order):
    """Return the least realizer, by trying all tuples of ascending linear orders, fewer ones first."""
    rows = rows_of(order)
    wanted = number_of(order.n, relation(order))
    for size in range(1, len(rows) + 1):
        for chosen in itertools.combinations(rows, size):
            common = chosen[0][1]
            for row, number in chosen[1:]:
                common &= number
            if common == wanted:
                return tuple(row for row, number in chosen)
    raise AssertionError


class NamesTest(unittest.TestCase):
    def test_names(self):
        check_names(self, "dimension", {
            "is_realizer": "(order, rows)", "dimension": "(order)", "least_realizer": "(order)",
        })


class DimensionTest(unittest.TestCase):
    def check_least(self, order):
        told = check_steady(self, least_realizer, order)
        self.assertIsInstance(told, tuple)
        self.assertTrue(all(type(row) is tuple for row in told))
        self.assertEqual(told, wanted_realizer(order), str(order))
        self.assertEqual(check_steady(self, dimension, order), len(told))
        check_truth(self, True, is_realizer(order, told))

    def test_small_orders(self):
        for order in small_orders(4):
            self.check_least(order)

    def test_five_and_six_points(self):
        for order in greater_orders()[:2] + [
            Order(5, ((1, 0), (1, 3), (2, 3), (2, 4))), Order(5, ((4, 1),)), Order(5, ((0, 3), (1, 3), (1, 4), (2, 4))),
            Order(6, ((5, 3), (5, 0), (4, 1), (3, 2), (0, 2))), Order(6, ((0, 1), (2, 3), (4, 5))),
            Order(6, ((0, 3), (1, 3), (1, 4), (2, 4), (2, 5))), antichain(5), chain(6),
        ]:
            self.check_least(order)

    def test_dimension_three(self):
        for order in (CROWN, TURNED_CROWN):
            self.check_least(order)
            self.assertEqual(dimension(order), 3)
        self.assertEqual(least_realizer(CROWN), ((0, 1, 5, 2, 3, 4), (0, 2, 4, 1, 3, 5), (1, 2, 3, 0, 4, 5)))

    def test_seven_points(self):
        for order in SEVEN + [parallel(CROWN, chain(1)), ordinal(chain(1), TURNED_CROWN), antichain(7), chain(7)]:
            told = least_realizer(order)
            check_truth(self, True, is_realizer(order, told))
            self.assertEqual(told, tuple(sorted(told)))
            self.assertEqual(dimension(order), len(told))
        self.assertEqual([dimension(order) for order in SEVEN], [2, 3])
        self.assertEqual(dimension(parallel(CROWN, chain(1))), 3)
        self.assertEqual(dimension(ordinal(chain(1), TURNED_CROWN)), 3)
        self.assertEqual(least_realizer(antichain(7)), (tuple(range(7)), tuple(range(6, -1, -1))))

    def test_seven_points_with_a_realizer_that_begins_with_neighbours(self):
        for order in (
            Order(7, ((0, 1), (0, 2), (3, 1), (3, 4), (5, 2), (5, 3), (6, 1))),
            Order(7, ((2, 0), (2, 4), (3, 0), (3, 1), (3, 4), (5, 0), (5, 1), (6, 0))),
        ):
            self.check_least(order)
            rows = all_linear(order)
            self.assertEqual([rows.index(row) for row in least_realizer(order)][:2], [0, 1])

    def test_no_two_rows_do_for_seven_points_of_dimension_three(self):
        for order in (SEVEN[1], parallel(CROWN, chain(1))):
            wanted = number_of(7, relation(order))
            numbers = [number for row, number in rows_of(order)]
            self.assertFalse(any(one & two == wanted for one, two in itertools.combinations(numbers, 2)))

    def test_dimension_one(self):
        for n in range(8):
            self.assertEqual((dimension(chain(n)), least_realizer(chain(n))), (1, (tuple(range(n)),)))
        self.assertEqual(least_realizer(EMPTY), ((),))
        for order in small_orders(4):
            comparable = all(order.related(x, y) for x in range(order.n) for y in range(order.n))
            self.assertEqual(dimension(order) == 1, comparable)

    def test_more_than_seven_points(self):
        for order in (chain(8), antichain(8), *greater_orders()[3:]):
            check_error(self, Refused, dimension, order, reason="large")
            check_error(self, Refused, least_realizer, order, reason="large")


class IsRealizerTest(unittest.TestCase):
    def test_each_tuple_of_arrangements(self):
        for order in small_orders(3):
            rows = dict(rows_of(order))
            wanted = number_of(order.n, relation(order))
            for size in range(4):
                for chosen in itertools.product(itertools.permutations(range(order.n)), repeat=size):
                    common = 2**9 - 1
                    for row in chosen:
                        common &= rows.get(row, 0)
                    right = size > 0 and all(row in rows for row in chosen) and (common == wanted or order.n == 0)
                    check_truth(self, right, is_realizer(order, chosen), str(order), chosen)
                    check_truth(self, False, is_realizer(order, list(chosen)))

    def test_all_linear_orders_are_a_realizer(self):
        for order in small_orders(4) + greater_orders()[:3]:
            check_truth(self, True, check_steady(self, is_realizer, order, all_linear(order)))

    def test_ten_points(self):
        for order in (antichain(10), chain(10)):
            rows = (tuple(range(10)), tuple(range(9, -1, -1)))
            check_truth(self, order.n == 10 and order.pairs() == (), is_realizer(order, rows))
            check_truth(self, order.pairs() != (), is_realizer(order, rows[:1]))

    def test_told_values(self):
        for rows in (((0, 1, 2), (0, 2, 1)), ((0, 2, 1), (0, 1, 2)), ((0, 1, 2), (0, 2, 1), (0, 1, 2))):
            check_truth(self, True, is_realizer(VEE, rows), rows)
        wrong = (
            (), ((),), ((0, 1, 2),), ((0, 2, 1), (0, 2, 1)), ((0, 1, 2), (2, 0, 1)), ((0, 1, 2), (0, 2, 1), (1, 0, 2)),
            [(0, 1, 2), (0, 2, 1)], ([0, 1, 2], (0, 2, 1)), ((0, 1, 2), [0, 2, 1]), ((0, 1, 2), (0, 2)),
            ((0, 1, 2), (0, 2, True)), ((False, 1, 2), (0, 2, 1)), ((0, 1, 2), (0, 2, 1), ()), ((0, 1, 2), (0, 2, 1), None),
            ((0, 1, 2), (0, 2, 1), (0, 1, 3)), ((0, 1, 2), (0, 2, 1, 1)), (0, 1, 2), None, True, 0, "012", VEE, (VEE,),
            ((0, 1, "2"), (0, 2, 1)), (((0, 1, 2), (0, 2, 1)),), ((0, 1, 2), (0, 2, 1), 7),
        )
        for rows in wrong:
            check_truth(self, False, is_realizer(VEE, rows), rows)

    def test_every_value(self):
        for value in VALUES:
            check_truth(self, type(value) is tuple and value == ((),), is_realizer(EMPTY, value), value)
            one = type(value) is tuple and value == ((0,),) and type(value[0]) is tuple and type(value[0][0]) is int
            check_truth(self, one, is_realizer(Order(1, ()), value), value)
        check_truth(self, True, is_realizer(EMPTY, ((), ())))
        check_truth(self, False, is_realizer(EMPTY, ()))


if __name__ == "__main__":
    unittest.main()
