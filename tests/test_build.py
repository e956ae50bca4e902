"""orderforms.build: chapter 2."""

import itertools
import unittest

from helper import (
    NO_INTEGERS, NO_ROWS, bits_of, check_error, check_names, check_steady, check_truth, closure, greater_orders,
    points_of, relation, small_orders,
)
from orderforms.build import (
    antichain, by_inclusion, chain, common_part, divisor_order, keeps, lexicographic, lexicographic_sum, ordinal,
    parallel, product, united,
)
from orderforms.errors import Malformed, Refused
from orderforms.order import Order

SMALL = small_orders(3)
EMPTY = Order(0, ())
POINT = Order(1, ())
FIVE = Order(5, ((4, 0), (0, 2), (3, 2)))


class BuildTest(unittest.TestCase):
    def check_order(self, told, n, wanted):
        self.assertIsInstance(told, Order)
        self.assertEqual(told.n, n)
        self.assertEqual(relation(told), set(wanted))

    def check_large(self, call, *args):
        check_error(self, Refused, call, *args, reason="large")


class NamesTest(unittest.TestCase):
    def test_names(self):
        check_names(self, "build", {
            "chain": "(n)", "antichain": "(n)", "parallel": "(a, b)", "ordinal": "(a, b)", "product": "(a, b)",
            "lexicographic": "(a, b)", "lexicographic_sum": "(a, orders)", "common_part": "(orders)",
            "by_inclusion": "(sets)", "divisor_order": "(k)", "keeps": "(one, two)", "united": "(one, two)",
        })


class ChainTest(BuildTest):
    def test_chain(self):
        for n in range(11):
            wanted = [(x, y) for x in range(n) for y in range(n) if x < y]
            self.check_order(check_steady(self, chain, n), n, wanted)

    def test_antichain(self):
        for n in range(11):
            self.check_order(check_steady(self, antichain, n), n, [])

    def test_too_many_points(self):
        for n in (11, 12, 1000, 2**70):
            self.check_large(chain, n)
            self.check_large(antichain, n)

    def test_no_numbers_of_points(self):
        for n in NO_INTEGERS + (-1, -2, -11, -(2**70)):
            check_error(self, Malformed, chain, n)
            check_error(self, Malformed, antichain, n)


class TwoOrdersTest(BuildTest):
    def test_told_examples(self):
        self.assertEqual(str(product(chain(2), chain(2))), "4: 0<1 0<2 1<3 2<3")
        self.assertEqual(str(ordinal(antichain(2), chain(1))), "3: 0<2 1<2")

    def test_parallel(self):
        for a, b in itertools.product(SMALL, SMALL):
            wanted = relation(a) | {(a.n + x, a.n + y) for x, y in relation(b)}
            self.check_order(check_steady(self, parallel, a, b), a.n + b.n, wanted)

    def test_ordinal(self):
        for a, b in itertools.product(SMALL, SMALL):
            wanted = relation(a) | {(a.n + x, a.n + y) for x, y in relation(b)}
            wanted |= {(x, a.n + y) for x in range(a.n) for y in range(b.n)}
            self.check_order(check_steady(self, ordinal, a, b), a.n + b.n, wanted)

    def places(self, a, b):
        return [((x, y), (z, w)) for x, z in itertools.product(range(a.n), repeat=2)
                for y, w in itertools.product(range(b.n), repeat=2)]

    def numbered(self, b, pairs):
        return [(x * b.n + y, z * b.n + w) for (x, y), (z, w) in pairs]

    def check_product(self, a, b):
        one, two = relation(a), relation(b)
        wanted = [
            ((x, y), (z, w)) for (x, y), (z, w) in self.places(a, b)
            if (x, y) != (z, w) and (x == z or (x, z) in one) and (y == w or (y, w) in two)
        ]
        self.check_order(check_steady(self, product, a, b), a.n * b.n, self.numbered(b, wanted))

    def check_lexicographic(self, a, b):
        one, two = relation(a), relation(b)
        wanted = [
            ((x, y), (z, w)) for (x, y), (z, w) in self.places(a, b) if (x, z) in one or (x == z and (y, w) in two)
        ]
        self.check_order(check_steady(self, lexicographic, a, b), a.n * b.n, self.numbered(b, wanted))

    def test_products(self):
        for a, b in itertools.product(SMALL, SMALL):
            self.check_product(a, b)
            self.check_lexicographic(a, b)

    def test_products_of_ten_points(self):
        for a, b in ((FIVE, chain(2)), (chain(2), FIVE), (POINT, greater_orders()[-1]), (greater_orders()[-1], POINT)):
            self.check_product(a, b)
            self.check_lexicographic(a, b)

    def test_sums_of_ten_points(self):
        for a in range(11):
            parts = chain(a), antichain(10 - a)
            self.assertEqual(parallel(*parts).size(), 10)
            self.assertEqual(len(ordinal(*parts).pairs()), a * (a - 1) // 2 + a * (10 - a))

    def test_orders_without_points(self):
        for order in SMALL + greater_orders():
            for sum_of in (parallel, ordinal):
                check_truth(self, True, sum_of(EMPTY, order) == order)
                check_truth(self, True, sum_of(order, EMPTY) == order)
            for product_of in (product, lexicographic):
                check_truth(self, True, product_of(EMPTY, order) == EMPTY)
                check_truth(self, True, product_of(order, EMPTY) == EMPTY)
                check_truth(self, True, product_of(POINT, order) == order)
                check_truth(self, True, product_of(order, POINT) == order)

    def test_too_many_points(self):
        for call in (parallel, ordinal):
            self.check_large(call, chain(10), POINT)
            self.check_large(call, POINT, antichain(10))
            self.check_large(call, chain(6), FIVE)
            self.check_large(call, chain(10), chain(10))
        for call in (product, lexicographic):
            self.check_large(call, FIVE, chain(3))
            self.check_large(call, chain(3), antichain(4))
            self.check_large(call, antichain(6), chain(2))
            self.check_large(call, chain(10), chain(10))


class LexicographicSumTest(BuildTest):
    def check_sum(self, a, orders):
        places = [(x, y) for x, b in enumerate(orders) for y in range(b.n)]
        wanted = []
        for low, high in itertools.permutations(range(len(places)), 2):
            (x, y), (z, w) = places[low], places[high]
            if (x, z) in relation(a) or (x == z and (y, w) in relation(orders[x])):
                wanted.append((low, high))
        self.check_order(check_steady(self, lexicographic_sum, a, orders), len(places), wanted)

    def test_sums_of_small_orders(self):
        some = [EMPTY, POINT, chain(2), antichain(2), Order(3, ((2, 0), (2, 1)))]
        for a in SMALL:
            for orders in itertools.product(some, repeat=a.n):
                self.check_sum(a, orders)
        for orders in itertools.product(some, repeat=2):
            self.check_sum(Order(2, ((1, 0),)), list(orders))

    def test_unlike_numbers_of_points(self):
        self.check_sum(Order(4, ((3, 0), (0, 2))), [chain(1), antichain(4), EMPTY, Order(5, ((4, 0), (1, 2)))])
        self.check_sum(Order(10, [(x + 1, x) for x in range(9)]), [POINT] * 10)
        self.check_sum(FIVE, [EMPTY, greater_orders()[-1], EMPTY, EMPTY, EMPTY])

    def test_no_orders(self):
        for orders in ((), []):
            check_truth(self, True, lexicographic_sum(EMPTY, orders) == EMPTY)
        check_truth(self, True, lexicographic_sum(antichain(3), [EMPTY] * 3) == EMPTY)

    def test_special_cases(self):
        for a, b in itertools.product(SMALL, SMALL):
            check_truth(self, True, lexicographic_sum(antichain(2), (a, b)) == parallel(a, b))
            check_truth(self, True, lexicographic_sum(chain(2), [a, b]) == ordinal(a, b))
            check_truth(self, True, lexicographic_sum(a, [b] * a.n) == lexicographic(a, b))

    def test_too_many_points(self):
        self.check_large(lexicographic_sum, chain(2), (chain(6), chain(5)))
        self.check_large(lexicographic_sum, antichain(3), [chain(4), chain(4), chain(3)])
        self.check_large(lexicographic_sum, chain(10), [POINT] * 9 + [chain(2)])

    def test_malformed(self):
        for orders in ((), (POINT,), (POINT,) * 3, [], [POINT], [chain(6)] * 3, [chain(10)] * 10, (chain(10),) * 3):
            check_error(self, Malformed, lexicographic_sum, chain(2), orders)
        check_error(self, Malformed, lexicographic_sum, EMPTY, (POINT,))
        check_error(self, Malformed, lexicographic_sum, EMPTY, (EMPTY,))
        for orders in NO_ROWS:
            check_error(self, Malformed, lexicographic_sum, EMPTY, orders)
            check_error(self, Malformed, lexicographic_sum, chain(2), orders)
        check_error(self, Malformed, lexicographic_sum, chain(2), {0: POINT, 1: POINT})


class CommonPartTest(BuildTest):
    def test_one_order(self):
        for order in SMALL + greater_orders():
            check_truth(self, True, common_part((order,)) == order)
            check_truth(self, True, common_part([order]) == order)

    def test_two_orders(self):
        for n in range(4):
            same = [order for order in SMALL if order.n == n]
            for a, b in itertools.product(same, same):
                self.check_order(check_steady(self, common_part, (a, b)), n, relation(a) & relation(b))

    def test_three_orders(self):
        same = [order for order in SMALL if order.n == 3]
        for a, b, c in itertools.product(same, same[::2], same[::3]):
            wanted = relation(a) & relation(b) & relation(c)
            self.check_order(check_steady(self, common_part, [a, b, c]), 3, wanted)

    def test_ten_points(self):
        told = common_part([chain(10), Order(10, [(x, y) for x in range(0, 10, 2) for y in range(1, 10, 2)])])
        self.check_order(told, 10, [(x, y) for x in range(0, 10, 2) for y in range(1, 10, 2) if x < y])

    def test_malformed(self):
        for orders in ((), [], (POINT, EMPTY), [chain(2), chain(2), chain(3)], (chain(3), chain(2), chain(3))):
            check_error(self, Malformed, common_part, orders)
        for orders in NO_ROWS:
            check_error(self, Malformed, common_part, orders)


class ByInclusionTest(BuildTest):
    def test_rows_of_small_sets(self):
        for size in range(4):
            for sets in itertools.product(range(8), repeat=size):
                parts = [set(points_of(bits)) for bits in sets]
                wanted = [(x, y) for x in range(size) for y in range(size) if parts[x] < parts[y]]
                self.check_order(check_steady(self, by_inclusion, sets), size, wanted)
                self.check_order(by_inclusion(list(sets)), size, wanted)

    def test_equal_sets_at_two_places(self):
        self.check_order(by_inclusion((5, 1, 5, 1)), 4, [(1, 0), (1, 2), (3, 0), (3, 2)])
        self.check_order(by_inclusion([0] * 10), 10, [])

    def test_no_sets(self):
        check_truth(self, True, by_inclusion([]) == EMPTY)
        check_truth(self, True, by_inclusion(()) == EMPTY)

    def test_ten_and_eleven_sets(self):
        self.check_order(by_inclusion([2**x - 1 for x in range(10)]), 10, relation(chain(10)))
        self.check_order(by_inclusion((2**300, 2**300 + 1, 1)), 3, [(0, 1), (2, 1)])
        self.check_large(by_inclusion, list(range(11)))
        self.check_large(by_inclusion, (0,) * 11)

    def test_malformed(self):
        for item in NO_INTEGERS + (-1, -(2**70)):
            for sets in ([item], (item, 0), [0, 1, item], [0] * 10 + [item], (item,) + (3,) * 20):
                check_error(self, Malformed, by_inclusion, sets)
        for sets in NO_ROWS:
            check_error(self, Malformed, by_inclusion, sets)


class DivisorOrderTest(BuildTest):
    def check_divisors(self, k):
        told = [d for d in range(1, k + 1) if k % d == 0]
        if len(told) > 10:
            self.check_large(divisor_order, k)
            return
        places = range(len(told))
        wanted = [(x, y) for x in places for y in places if x != y and told[y] % told[x] == 0]
        self.check_order(divisor_order(k), len(told), wanted)

    def test_small_numbers(self):
        for k in range(1, 300):
            self.check_divisors(k)

    def test_greater_numbers(self):
        for k in (512, 625, 997, 1024, 65536, 99991, 720720, 994009, 999983, 1000000):
            self.check_divisors(k)

    def test_told_numbers(self):
        self.assertEqual(str(divisor_order(1)), "1:")
        self.assertEqual(str(divisor_order(7)), "2: 0<1")
        self.assertEqual(str(divisor_order(12)), "6: 0<1 0<2 1<3 1<4 2<4 3<5 4<5")
        self.assertEqual(len(divisor_order(48)), 10)
        self.assertEqual(str(divisor_order(49)), "3: 0<1 1<2")
        check_steady(self, divisor_order, 30)
        self.check_large(divisor_order, 60)
        self.check_large(divisor_order, 1000000)

    def test_malformed(self):
        for k in NO_INTEGERS + (0, -1, -12, 1000001, 1000003, 2**70):
            check_error(self, Malformed, divisor_order, k)


class KeepsTest(BuildTest):
    def test_keeps(self):
        for one, two in itertools.product(SMALL, SMALL):
            wanted = one.n == two.n and relation(two) <= relation(one)
            check_truth(self, wanted, check_steady(self, keeps, one, two), str(one), str(two))

    def test_keeps_of_examples(self):
        check_truth(self, True, keeps(chain(3), Order(3, ((0, 2),))))
        check_truth(self, False, keeps(Order(3, ((0, 2),)), chain(3)))
        check_truth(self, False, keeps(chain(10), chain(9)))
        check_truth(self, False, keeps(chain(2), chain(3)))
        check_truth(self, False, keeps(POINT, EMPTY))
        check_truth(self, True, keeps(EMPTY, EMPTY))

    def test_united(self):
        for n in range(4):
            same = [order for order in SMALL if order.n == n]
            for one, two in itertools.product(same, same):
                wanted = closure(relation(one) | relation(two))
                if any(x == y for x, y in wanted):
                    check_error(self, Refused, united, one, two, reason="cycle")
                else:
                    self.check_order(check_steady(self, united, one, two), n, wanted)

    def test_united_is_the_least_order_that_keeps_both(self):
        same = [order for order in SMALL if order.n == 3]
        for one, two in itertools.product(same, same):
            both = [order for order in same if keeps(order, one) and keeps(order, two)]
            if both:
                told = united(one, two)
                self.assertEqual([order for order in both if all(keeps(other, order) for other in both)], [told])
            else:
                check_error(self, Refused, united, one, two, reason="cycle")

    def test_united_of_ten_points(self):
        one = Order(10, [(x, x + 1) for x in range(0, 9, 2)])
        two = Order(10, [(x, x + 1) for x in range(1, 9, 2)])
        check_truth(self, True, united(one, two) == chain(10))
        check_error(self, Refused, united, one, Order(10, ((1, 0),)), reason="cycle")
        self.assertEqual(bits_of(range(1, 10)), united(one, two).above[0])

    def test_united_of_unlike_numbers_of_points(self):
        for one, two in ((EMPTY, POINT), (chain(2), chain(3)), (chain(3), Order(2, ((1, 0),)))):
            check_error(self, Malformed, united, one, two)
            check_error(self, Malformed, united, two, one)


if __name__ == "__main__":
    unittest.main()
