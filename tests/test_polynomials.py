"""orderforms.polynomials: points 5.5 to 5.7."""

import itertools
import math
import unittest

from helper import check_names, check_steady, greater_orders, points_of, relation, small_orders
from orderforms.build import antichain, chain
from orderforms.order import Order
from orderforms.polynomials import (
    binomial, chain_counts, chain_polynomial, order_polynomial, strict_polynomial, value_at,
)

EMPTY = Order(0, ())
ORDERS = small_orders(4)[:24] + small_orders(4)[24::3] + greater_orders()
VEE = Order(3, ((0, 1), (0, 2)))


def wanted_binomial(k, j):
    """Return k (k - 1) .. (k - j + 1) divided by the factorial of j."""
    whole, left = divmod(math.prod(k - i for i in range(j)), math.factorial(j))
    assert left == 0
    return whole


def sizes_of_chains(order):
    """Return the list of the sizes of all chains, by the definition."""
    pairs = relation(order)
    return [
        len(points) for points in map(points_of, range(2**order.n))
        if all((x, y) in pairs or (y, x) in pairs for x, y in itertools.combinations(points, 2))
    ]


def count_rows(order, many):
    """Return the number of rows of so many points that do not descend."""
    near = relation(order) | {(x, x) for x in range(order.n)}
    rows = itertools.product(range(order.n), repeat=many)
    return sum(all(step in near for step in zip(row, row[1:])) for row in rows)


def rows_of_maps(order, k, strict):
    """Return the list of the maps to 1, .., k that keep the order, strictly or not."""
    pairs = relation(order)
    return [
        row for row in itertools.product(range(1, k + 1), repeat=order.n)
        if all(row[x] < row[y] if strict else row[x] <= row[y] for x, y in pairs)
    ]


class NamesTest(unittest.TestCase):
    def test_names(self):
        check_names(self, "polynomials", {
            "binomial": "(k, j)", "value_at": "(coefficients, k)", "chain_counts": "(order)",
            "chain_polynomial": "(order)", "order_polynomial": "(order)", "strict_polynomial": "(order)",
        })


class BinomialTest(unittest.TestCase):
    def test_against_the_definition(self):
        for k in range(-12, 13):
            for j in range(16):
                told = binomial(k, j)
                self.assertIs(type(told), int)
                self.assertEqual(told, wanted_binomial(k, j), (k, j))

    def test_ends(self):
        for k in (-(10**30), -7, -1, 0, 1, 7, 10**30):
            self.assertEqual((binomial(k, 0), binomial(k, 1)), (1, k))
        for k in range(10):
            self.assertEqual((binomial(k, k), binomial(k, k + 1), binomial(k, k + 50)), (1, 0, 0))
        self.assertEqual([binomial(-1, j) for j in range(5)], [1, -1, 1, -1, 1])
        self.assertEqual([binomial(-2, j) for j in range(5)], [1, -2, 3, -4, 5])
        self.assertEqual((binomial(0, 0), binomial(0, 3)), (1, 0))

    def test_large_numbers(self):
        self.assertEqual(binomial(1000, 500), math.comb(1000, 500))
        self.assertEqual(binomial(10**30, 20), math.comb(10**30, 20))
        self.assertEqual(binomial(10**30, 10**30 - 2), math.comb(10**30, 2))
        self.assertEqual(binomial(-(10**30), 3), -math.comb(10**30 + 2, 3))
        self.assertEqual(binomial(-500, 500), math.comb(999, 500))
        self.assertEqual(binomial(-500, 501), -math.comb(1000, 501))
        self.assertEqual((binomial(7, 10**30), binomial(-1, 10**30), binomial(-1, 10**30 + 1)), (0, 1, -1))

    def test_sum_of_two(self):
        for k, j in itertools.product(range(-9, 10), range(1, 9)):
            self.assertEqual(binomial(k, j), binomial(k - 1, j) + binomial(k - 1, j - 1))


class ValueTest(unittest.TestCase):
    def test_value_at(self):
        for k in (-(10**30), -3, -1, 0, 1, 2, 5, 10**30):
            self.assertEqual(value_at((), k), 0)
            self.assertEqual(value_at((7,), k), 7)
            self.assertEqual(value_at((-4, 3), k), 3 * k - 4)
            self.assertEqual(value_at((0, 0, 2), k), k * (k - 1))
            self.assertEqual(value_at((5, 0, 1, 6), k), 5 + k * (k - 1) // 2 + k * (k - 1) * (k - 2))
        self.assertEqual(value_at((1, 2, 3), -2), 1 - 4 + 9)
        self.assertEqual(check_steady(self, value_at, (1, 1, 1, 1), 3), 8)

    def test_values_tell_the_polynomial(self):
        for coefficients in itertools.product(range(-2, 3), repeat=3):
            values = [value_at(coefficients, k) for k in range(3)]
            steps = [values[0], values[1] - values[0], values[2] - 2 * values[1] + values[0]]
            self.assertEqual(steps, list(coefficients))


class ChainsTest(unittest.TestCase):
    def test_counts_against_all_sets_of_points(self):
        for order in ORDERS:
            sizes = sizes_of_chains(order)
            told = check_steady(self, chain_counts, order)
            self.assertIsInstance(told, tuple)
            self.assertEqual(told, tuple(sizes.count(size) for size in range(max(sizes) + 1)), str(order))

    def test_polynomial_has_the_counts(self):
        for order in ORDERS:
            told = check_steady(self, chain_polynomial, order)
            self.assertIsInstance(told, tuple)
            sizes = sizes_of_chains(order)
            self.assertEqual(told, tuple(sizes.count(size) for size in range(1, max(sizes) + 1)), str(order))
            self.assertNotIn(0, told[-1:])

    def test_values_count_rows(self):
        for order in small_orders(3) + small_orders(4)[30::9] + greater_orders()[:3]:
            for k in range(5 if order.n <= 4 else 3):
                self.assertEqual(value_at(chain_polynomial(order), k), count_rows(order, k + 1), (str(order), k))

    def test_examples(self):
        self.assertEqual((chain_counts(EMPTY), chain_polynomial(EMPTY)), ((1,), ()))
        self.assertEqual((chain_counts(VEE), chain_polynomial(VEE)), ((1, 3, 2), (3, 2)))
        self.assertEqual(chain_counts(chain(10)), tuple(math.comb(10, size) for size in range(11)))
        self.assertEqual(chain_counts(antichain(10)), (1, 10))
        self.assertEqual([value_at(chain_polynomial(EMPTY), k) for k in range(-2, 4)], [0] * 6)
        self.assertEqual(value_at(chain_polynomial(chain(3)), 4), math.comb(7, 5))


class MapsTest(unittest.TestCase):
    def check_counts(self, order, told, strict):
        self.assertIsInstance(told, tuple)
        for k in range(4):
            self.assertEqual(value_at(told, k), len(rows_of_maps(order, k, strict)), (str(order), k))
        if order.n <= 5:
            onto = [
                sum(set(row) == set(range(1, j + 1)) for row in rows_of_maps(order, j, strict))
                for j in range(order.n + 1)
            ]
            self.assertEqual(told, tuple(onto), str(order))
        self.assertNotEqual(told[-1], 0)

    def test_order_polynomial(self):
        for order in small_orders(3) + ORDERS[24:-4]:
            self.check_counts(order, check_steady(self, order_polynomial, order), False)

    def test_strict_polynomial(self):
        for order in small_orders(3) + ORDERS[24:-4]:
            self.check_counts(order, check_steady(self, strict_polynomial, order), True)

    def test_strict_one_is_the_other_at_negative_numbers(self):
        for order in ORDERS:
            one, two = strict_polynomial(order), order_polynomial(order)
            for k in range(-6, 7):
                self.assertEqual(value_at(one, k), (-1) ** order.n * value_at(two, -k), (str(order), k))

    def test_examples(self):
        self.assertEqual((order_polynomial(EMPTY), strict_polynomial(EMPTY)), ((1,), (1,)))
        self.assertEqual((order_polynomial(Order(1, ())), strict_polynomial(Order(1, ()))), ((0, 1), (0, 1)))
        self.assertEqual((order_polynomial(VEE), strict_polynomial(VEE)), ((0, 1, 3, 2), (0, 0, 1, 2)))
        self.assertEqual(strict_polynomial(chain(10)), (0,) * 10 + (1,))
        self.assertEqual(order_polynomial(chain(10)), (0, *[math.comb(9, j) for j in range(10)]))
        for k in (-3, 0, 1, 2, 7, 100):
            self.assertEqual(value_at(order_polynomial(antichain(10)), k), k**10)
            self.assertEqual(value_at(strict_polynomial(antichain(10)), k), k**10)
            self.assertEqual(value_at(order_polynomial(chain(10)), k), binomial(k + 9, 10))
        self.assertEqual(order_polynomial(antichain(10))[-1], math.factorial(10))


if __name__ == "__main__":
    unittest.main()
