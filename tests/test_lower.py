"""orderforms.lower: points 4.1 and 4.2."""

import itertools
import unittest

from helper import bits_of, check_names, check_steady, check_truth, greater_orders, points_of, relation, small_orders
from orderforms.lower import antichains, is_lower, lower_hull, lower_sets, top_points
from orderforms.order import Order

ORDERS = small_orders(4) + greater_orders()


def wanted_lower_sets(order):
    """Return the sets that hold with each point all below it, in the told order."""
    pairs = relation(order)
    sets = [bits for bits in range(2**order.n) if all(bits >> x & 1 or not bits >> y & 1 for x, y in pairs)]
    return sorted(sets, key=lambda bits: (len(points_of(bits)), bits))


class LowerTest(unittest.TestCase):
    def test_names(self):
        check_names(self, "lower", {
            "is_lower": "(order, s)", "lower_hull": "(order, s)", "top_points": "(order, s)",
            "lower_sets": "(order)", "antichains": "(order)",
        })

    def test_told_examples(self):
        order = Order(3, ((0, 2), (1, 2)))
        self.assertEqual(lower_sets(order), (0, 1, 2, 3, 7))
        self.assertEqual(antichains(order), (0, 1, 2, 3, 4))
        self.assertEqual(lower_sets(Order(3, ((2, 0),))), (0, 2, 4, 5, 6, 7))
        self.assertEqual((lower_hull(order, 4), top_points(order, 7), top_points(order, 3)), (7, 4, 3))

    def test_without_points(self):
        empty = Order(0, ())
        check_truth(self, True, is_lower(empty, 0))
        self.assertEqual((lower_hull(empty, 0), top_points(empty, 0)), (0, 0))
        self.assertEqual((lower_sets(empty), antichains(empty)), ((0,), (0,)))

    def test_is_lower(self):
        for order in ORDERS:
            wanted = set(wanted_lower_sets(order))
            for bits in range(2**order.n):
                check_truth(self, bits in wanted, is_lower(order, bits), str(order), bits)
            check_truth(self, True, is_lower(order, 0))
            check_truth(self, True, is_lower(order, 2**order.n - 1))

    def test_lower_hull(self):
        for order in ORDERS:
            pairs = relation(order)
            for bits in range(2**order.n):
                points = points_of(bits)
                wanted = bits_of([*points, *[x for x, y in pairs if y in points]])
                self.assertEqual(lower_hull(order, bits), wanted, (str(order), bits))

    def test_lower_hull_is_the_least_lower_set(self):
        for order in small_orders(3):
            for bits in range(2**order.n):
                holding = [s for s in wanted_lower_sets(order) if s & bits == bits]
                self.assertEqual(check_steady(self, lower_hull, order, bits), holding[0])

    def test_top_points(self):
        for order in ORDERS:
            pairs = relation(order)
            for bits in range(2**order.n):
                points = points_of(bits)
                wanted = [x for x in points if not any((x, y) in pairs for y in points)]
                self.assertEqual(top_points(order, bits), bits_of(wanted), (str(order), bits))

    def test_lower_sets(self):
        for order in ORDERS:
            told = check_steady(self, lower_sets, order)
            self.assertIsInstance(told, tuple)
            self.assertEqual(list(told), wanted_lower_sets(order), str(order))

    def test_lower_sets_of_ten_points(self):
        chain = Order(10, [(x, x + 1) for x in range(9)])
        self.assertEqual(lower_sets(chain), tuple(2**x - 1 for x in range(11)))
        self.assertEqual(len(lower_sets(Order(10, ()))), 1024)

    def test_antichains(self):
        for order in ORDERS:
            told = check_steady(self, antichains, order)
            self.assertIsInstance(told, tuple)
            self.assertEqual(told, tuple(top_points(order, s) for s in lower_sets(order)))
            self.assertEqual(len(told), len(lower_sets(order)))
            self.assertEqual(len(set(told)), len(told))
            pairs = relation(order)
            wanted = [
                bits for bits in range(2**order.n)
                if not any((x, y) in pairs for x, y in itertools.permutations(points_of(bits), 2))
            ]
            self.assertEqual(sorted(told), wanted, str(order))

    def test_hulls_and_top_points_belong_together(self):
        for order in ORDERS:
            for s, top in zip(lower_sets(order), antichains(order)):
                self.assertEqual(lower_hull(order, top), s)
                self.assertEqual(top_points(order, lower_hull(order, top)), top)

    def test_unions_and_common_parts(self):
        for order in small_orders(3):
            for one, two in itertools.product(lower_sets(order), repeat=2):
                check_truth(self, True, is_lower(order, one | two))
                check_truth(self, True, is_lower(order, one & two))

    def test_steady(self):
        for order in greater_orders():
            for call in (is_lower, lower_hull, top_points):
                check_steady(self, call, order, 2**order.n // 3)


if __name__ == "__main__":
    unittest.main()
