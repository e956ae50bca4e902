"""orderforms.incidence: points 5.1 to 5.4."""

import itertools
import unittest

from helper import (
    NO_ROWS, VALUES, check_class, check_error, check_names, check_steady, check_truth, greater_orders, points_of,
    relation, small_orders,
)
from orderforms.build import antichain, chain
from orderforms.errors import Malformed, Refused
from orderforms.incidence import Incidence, chains_between, delta, moebius, zeta
from orderforms.order import Order

SMALL = small_orders(3)
ORDERS = small_orders(4)[::4] + greater_orders()
VEE = Order(3, ((0, 1), (0, 2)))
EMPTY = Order(0, ())

METHODS = {
    "__init__": "(self, order, rows)", "__eq__": "(self, other)", "__add__": "(self, other)",
    "__sub__": "(self, other)", "__mul__": "(self, other)", "__neg__": "(self)", "value": "(self, x, y)",
    "scaled": "(self, k)", "power": "(self, k)", "inverse": "(self)", "sums": "(self, values)",
}


def intervals(order):
    """Return the ascending list of the pairs x <= y."""
    return sorted(relation(order) | {(x, x) for x in range(order.n)})


def made_rows(order, at):
    """Return rows of the form of a function, with the values that at(x, y) tells."""
    near = intervals(order)
    return tuple(tuple(at(x, y) if (x, y) in near else 0 for y in range(order.n)) for x in range(order.n))


def mixed(order, seed, most=7):
    """Return a function with values from -most to most."""
    return Incidence(order, made_rows(order, lambda x, y: (31 * x + 17 * y + 13 * x * y + seed) % (2 * most + 1) - most))


def with_ends(order, seed):
    """Return a function whose values at equal points are 1 or -1."""
    mix = mixed(order, seed).rows
    return Incidence(order, made_rows(order, lambda x, y: mix[x][y] if x != y else (-1) ** ((x + seed) % 3)))


def product_rows(order, f, g):
    """Return the rows of the product, by sums over the points of the intervals."""
    near = intervals(order)
    return made_rows(order, lambda x, y: sum(
        f[x][z] * g[z][y] for z in range(order.n) if (x, z) in near and (z, y) in near))


def chain_sets(order, x, y):
    """Return the lists of points of all chains with x the least and y the greatest point."""
    pairs = relation(order)
    found = []
    for bits in range(2**order.n):
        points = points_of(bits)
        if x in points and y in points and all(
                (z, w) in pairs or (w, z) in pairs for z, w in itertools.combinations(points, 2)):
            if all(z == x or (x, z) in pairs for z in points) and all(z == y or (z, y) in pairs for z in points):
                found.append(points)
    return found


class NamesTest(unittest.TestCase):
    def test_names(self):
        check_class(self, "incidence", "Incidence", "(order, rows)", METHODS)
        check_names(self, "incidence", {
            "delta": "(order)", "zeta": "(order)", "moebius": "(order)", "chains_between": "(order, x, y, count)",
        })


class FormTest(unittest.TestCase):
    def test_fields(self):
        for order in ORDERS:
            rows = made_rows(order, lambda x, y: 100 * x - y)
            for value in (rows, list(rows), [list(row) for row in rows], tuple(list(row) for row in rows)):
                f = check_steady(self, Incidence, order, value)
                self.assertIs(type(f.rows), tuple)
                self.assertTrue(all(type(row) is tuple for row in f.rows))
                self.assertEqual(f.rows, rows)
                check_truth(self, True, f.order == order)

    def test_later_changes_of_the_rows_change_nothing(self):
        rows = [[1, 2], [0, 3]]
        f = Incidence(chain(2), rows)
        rows[0][1] = 9
        rows.append([5])
        self.assertEqual(f.rows, ((1, 2), (0, 3)))

    def test_without_points(self):
        for rows in ((), []):
            self.assertEqual(Incidence(EMPTY, rows).rows, ())
        for rows in ((0,), ((),), [[]], None, 0, "", {}):
            check_error(self, Malformed, Incidence, EMPTY, rows)

    def test_rows_that_are_none(self):
        for rows in NO_ROWS + ({}, {0: (0, 0, 0)}, VEE, zeta(VEE)):
            check_error(self, Malformed, Incidence, VEE, rows)
        good = ((1, 2, 3), (0, 4, 0), (0, 0, 5))
        for rows in (good[:2], good + ((0, 0, 0),), good[:1], (), [], good + ((),)):
            check_error(self, Malformed, Incidence, VEE, rows)
            check_error(self, Malformed, Incidence, VEE, list(rows))

    def test_items_that_are_no_rows(self):
        good = ((1, 2, 3), (0, 4, 0), (0, 0, 5))
        wrong = (None, 0, True, "000", "", (), (0,), (0, 0), (0, 0, 0, 0), [0, 0], {}, VEE, zeta(VEE))
        for at, item in itertools.product(range(3), wrong):
            check_error(self, Malformed, Incidence, VEE, good[:at] + (item,) + good[at + 1:])

    def test_values_that_are_no_integers(self):
        for order in (antichain(3), chain(3), VEE):
            for at, worth in itertools.product(range(9), (True, False, None, "0", "", (), [], (0,), VEE, zeta(EMPTY))):
                row = [0] * 9
                row[at] = worth
                check_error(self, Malformed, Incidence, order, (tuple(row[:3]), row[3:6], row[6:]))

    def test_values_outside_of_the_intervals(self):
        for order in small_orders(3) + greater_orders()[:2]:
            near = intervals(order)
            for x, y in itertools.product(range(order.n), repeat=2):
                for worth in (1, -1, 2**70):
                    rows = [[worth if (z, w) == (x, y) else 0 for w in range(order.n)] for z in range(order.n)]
                    if (x, y) in near:
                        self.assertEqual(Incidence(order, rows).value(x, y), worth)
                    else:
                        check_error(self, Malformed, Incidence, order, rows)


class SumTest(unittest.TestCase):
    def check_rows(self, told, order, wanted):
        self.assertIsInstance(told, Incidence)
        check_truth(self, True, told.order == order)
        self.assertEqual(told.rows, tuple(tuple(row) for row in wanted))

    def test_sums_and_products(self):
        for order in ORDERS:
            f, g = mixed(order, 3), mixed(order, 8, 1000)
            pairs = [list(zip(one, two)) for one, two in zip(f.rows, g.rows)]
            self.check_rows(check_steady(self, Incidence.__add__, f, g), order, [[a + b for a, b in row] for row in pairs])
            self.check_rows(check_steady(self, Incidence.__sub__, f, g), order, [[a - b for a, b in row] for row in pairs])
            self.check_rows(check_steady(self, Incidence.__neg__, f), order, [[-a for a in row] for row in f.rows])
            self.check_rows(check_steady(self, Incidence.__mul__, f, g), order, product_rows(order, f.rows, g.rows))
            for k in (-3, 0, 1, 10**30):
                self.check_rows(check_steady(self, Incidence.scaled, f, k), order, [[k * a for a in row] for row in f.rows])
            self.check_rows(f + g, order, (g + f).rows)
            self.check_rows(f - g, order, (f + -g).rows)

    def test_operators_with_values_of_an_example(self):
        f, g = Incidence(chain(2), ((1, 2), (0, 3))), Incidence(chain(2), [[4, 5], [0, 6]])
        self.assertEqual((f + g).rows, ((5, 7), (0, 9)))
        self.assertEqual((f - g).rows, ((-3, -3), (0, -3)))
        self.assertEqual((f * g).rows, ((4, 17), (0, 18)))
        self.assertEqual((g * f).rows, ((4, 23), (0, 18)))
        self.assertEqual((-f).rows, ((-1, -2), (0, -3)))
        self.assertEqual(f.scaled(-2).rows, ((-2, -4), (0, -6)))
        self.assertEqual([f.value(0, 1), f.value(1, 0)], [2, 0])

    def test_product_is_associative_and_distributes(self):
        for order in ORDERS[::3]:
            f, g, h = mixed(order, 1), mixed(order, 2), mixed(order, 4)
            check_truth(self, True, (f * g) * h == f * (g * h))
            check_truth(self, True, f * (g + h) == f * g + f * h)
            check_truth(self, True, (f + g) * h == f * h + g * h)

    def test_delta_is_the_unit(self):
        for order in ORDERS:
            unit = check_steady(self, delta, order)
            self.check_rows(unit, order, made_rows(order, lambda x, y: 1 if x == y else 0))
            f = mixed(order, 5)
            check_truth(self, True, unit * f == f)
            check_truth(self, True, f * unit == f)

    def test_unlike_orders(self):
        pairs = [(EMPTY, Order(1, ())), (chain(2), antichain(2)), (chain(3), Order(3, ((2, 1), (1, 0)))), (VEE, chain(3))]
        for a, b in pairs + [(b, a) for a, b in pairs]:
            for call in (lambda f, g: f + g, lambda f, g: f - g, lambda f, g: f * g):
                check_error(self, Malformed, call, delta(a), delta(b))
                check_error(self, Malformed, call, zeta(a), mixed(b, 1))

    def test_equal_orders_need_not_be_one_object(self):
        f, g = zeta(Order(3, ((0, 1), (1, 2)))), zeta(Order(3, ((1, 2), (0, 2), (0, 1))))
        self.assertEqual((f - g).rows, ((0, 0, 0),) * 3)
        self.assertEqual((f * g).rows, ((1, 2, 3), (0, 1, 2), (0, 0, 1)))

    def test_value(self):
        for order in ORDERS:
            f = mixed(order, 6)
            near = intervals(order)
            for x, y in itertools.product(range(order.n), repeat=2):
                self.assertEqual(check_steady(self, Incidence.value, f, x, y), f.rows[x][y])
                if (x, y) not in near:
                    self.assertEqual(f.value(x, y), 0)

    def test_power(self):
        for order in ORDERS[::2]:
            f = mixed(order, 2)
            rows = delta(order).rows
            for k in range(6):
                self.check_rows(check_steady(self, Incidence.power, f, k), order, rows)
                rows = product_rows(order, rows, f.rows)

    def test_great_powers(self):
        told = Incidence(chain(2), ((1, 1), (0, 1))).power(1000)
        self.assertEqual(told.rows, ((1, 1000), (0, 1)))
        self.assertEqual(Incidence(Order(1, ()), ((2,),)).power(300).rows, ((2**300,),))
        self.assertEqual(zeta(EMPTY).power(0).rows, ())

    def test_equality(self):
        some = [make(order) for order in SMALL[:12] for make in (delta, zeta, moebius, lambda order: mixed(order, 1))]
        for f, g in itertools.product(some, repeat=2):
            wanted = f.order.n == g.order.n and relation(f.order) == relation(g.order) and f.rows == g.rows
            check_truth(self, wanted, f == g)
            check_truth(self, not wanted, f != g)
        check_truth(self, True, zeta(chain(2)) == Incidence(Order(2, [(0, 1)]), [[1, 1], [0, 1]]))
        check_truth(self, False, delta(chain(2)) == delta(antichain(2)))

    def test_equality_with_other_values(self):
        for f in (zeta(EMPTY), zeta(Order(1, ())), zeta(chain(2)), delta(antichain(2))):
            for value in VALUES + (f.rows, f.order, [f], (f,), (f.order, f.rows)):
                if not isinstance(value, Incidence):
                    check_truth(self, False, f == value, value)
                    check_truth(self, True, f != value, value)


class InverseTest(unittest.TestCase):
    def test_product_with_the_inverse_is_delta(self):
        for order in ORDERS:
            for seed in range(4):
                f = with_ends(order, seed)
                told = check_steady(self, Incidence.inverse, f)
                self.assertIsInstance(told, Incidence)
                self.assertEqual(product_rows(order, f.rows, told.rows), delta(order).rows)
                self.assertEqual(product_rows(order, told.rows, f.rows), delta(order).rows)
                self.assertEqual([told.value(x, x) for x in range(order.n)], [f.value(x, x) for x in range(order.n)])
                check_truth(self, True, told.inverse() == f)

    def test_refused(self):
        for order in ORDERS:
            for x, worth in itertools.product(range(order.n), (0, 2, -2, 2**70)):
                f = with_ends(order, 1)
                rows = [[worth if y == z == x else f.rows[y][z] for z in range(order.n)] for y in range(order.n)]
                check_error(self, Refused, Incidence(order, rows).inverse, reason="inverse")
        check_error(self, Refused, (zeta(chain(2)) - delta(chain(2))).inverse, reason="inverse")

    def test_examples(self):
        self.assertEqual(Incidence(chain(2), ((-1, 5), (0, 1))).inverse().rows, ((-1, 5), (0, 1)))
        self.assertEqual(Incidence(chain(2), ((1, 5), (0, 1))).inverse().rows, ((1, -5), (0, 1)))
        self.assertEqual(Incidence(antichain(2), ((-1, 0), (0, 1))).inverse().rows, ((-1, 0), (0, 1)))
        self.assertEqual(zeta(EMPTY).inverse().rows, ())

    def test_large_numbers(self):
        order = chain(10)
        f = Incidence(order, made_rows(order, lambda x, y: (-1) ** x if x == y else 10**30 + 7 * x - y))
        told = f.inverse()
        self.assertGreater(max(abs(item) for row in told.rows for item in row), 10**240)
        self.assertEqual(product_rows(order, f.rows, told.rows), delta(order).rows)
        self.assertEqual(product_rows(order, told.rows, f.rows), delta(order).rows)


class MoebiusTest(unittest.TestCase):
    def test_zeta(self):
        for order in ORDERS:
            told = check_steady(self, zeta, order)
            self.assertIsInstance(told, Incidence)
            self.assertEqual(told.rows, made_rows(order, lambda x, y: 1))

    def test_moebius_is_the_sum_over_chains(self):
        for order in ORDERS:
            told = check_steady(self, moebius, order)
            self.assertIsInstance(told, Incidence)
            near = intervals(order)
            some = near if order.n < 8 else near[::5]
            for x, y in some:
                self.assertEqual(told.value(x, y), sum((-1) ** (len(points) - 1) for points in chain_sets(order, x, y)))
            self.assertEqual(product_rows(order, told.rows, zeta(order).rows), delta(order).rows)
            self.assertEqual(product_rows(order, zeta(order).rows, told.rows), delta(order).rows)

    def test_moebius_of_examples(self):
        cube = greater_orders()[3]
        for x, y in intervals(cube):
            self.assertEqual(moebius(cube).value(x, y), (-1) ** len(points_of(x ^ y)))
        self.assertEqual(moebius(chain(4)).rows, ((1, -1, 0, 0), (0, 1, -1, 0), (0, 0, 1, -1), (0, 0, 0, 1)))
        self.assertEqual(moebius(EMPTY).rows, ())
        fan = Order(6, [(0, x) for x in (1, 2, 3, 4)] + [(x, 5) for x in (1, 2, 3, 4)])
        self.assertEqual(moebius(fan).value(0, 5), 3)

    def test_sums_and_back(self):
        for order in ORDERS:
            start = tuple((7 * x * x - 30 * x + 11) * 10 ** (3 * x) for x in range(order.n))
            near = intervals(order)
            told = check_steady(self, Incidence.sums, zeta(order), start)
            self.assertIsInstance(told, tuple)
            self.assertEqual(told, tuple(sum(start[x] for x in range(order.n) if (x, y) in near) for y in range(order.n)))
            self.assertEqual(moebius(order).sums(told), start)

    def test_sums_of_other_functions(self):
        for order in ORDERS:
            f = mixed(order, 9)
            start = tuple(5 - 3 * x for x in range(order.n))
            wanted = tuple(sum(start[x] * f.rows[x][y] for x in range(order.n)) for y in range(order.n))
            self.assertEqual(f.sums(start), wanted)
        self.assertEqual(zeta(EMPTY).sums(()), ())
        self.assertEqual(Incidence(chain(2), ((1, 2), (0, 3))).sums((10, 100)), (10, 320))


class ChainsTest(unittest.TestCase):
    def test_chains_between_all_pairs(self):
        for order in small_orders(4)[::3] + greater_orders()[:3]:
            for x, y in itertools.product(range(order.n), repeat=2):
                sizes = [len(points) for points in chain_sets(order, x, y)]
                for count in range(1, order.n + 3):
                    self.assertEqual(chains_between(order, x, y, count), sizes.count(count), (str(order), x, y, count))

    def test_examples(self):
        self.assertEqual([chains_between(chain(10), 0, 9, count) for count in range(1, 13)],
                         [0, 1, 8, 28, 56, 70, 56, 28, 8, 1, 0, 0])
        self.assertEqual([chains_between(VEE, 0, 0, count) for count in (1, 2, 3)], [1, 0, 0])
        self.assertEqual([chains_between(VEE, 1, 0, count) for count in (1, 2, 3)], [0, 0, 0])
        self.assertEqual([chains_between(VEE, 1, 2, count) for count in (1, 2, 3)], [0, 0, 0])
        self.assertEqual(check_steady(self, chains_between, VEE, 0, 2, 2), 1)

    def test_powers_of_the_strict_function(self):
        for order in small_orders(3) + greater_orders()[:2]:
            strict = zeta(order) - delta(order)
            for k in range(order.n + 2):
                told = strict.power(k)
                for x, y in itertools.product(range(order.n), repeat=2):
                    wanted = [points for points in chain_sets(order, x, y) if len(points) == k + 1]
                    self.assertEqual(told.value(x, y), len(wanted))

    def test_all_chains(self):
        for order in ORDERS:
            told = (delta(order).scaled(2) - zeta(order)).inverse()
            near = intervals(order)
            for x, y in near if order.n < 8 else near[::5]:
                self.assertEqual(told.value(x, y), len(chain_sets(order, x, y)))


if __name__ == "__main__":
    unittest.main()
