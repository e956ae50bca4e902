"""orderforms.chains: chapter 3."""

import itertools
import unittest

from helper import (
    VALUES, bits_of, check_names, check_steady, check_truth, greater_orders, points_of, relation, small_orders,
)
from orderforms.chains import (
    antichain_parting, chain_parting, is_antichain, is_antichain_parting, is_chain, is_chain_parting,
    largest_antichain, length, longest_chain, rank_of, width,
)
from orderforms.matching import largest_matching, least_cover
from orderforms.order import Order

ORDERS = small_orders(4) + greater_orders()
EMPTY = Order(0, ())
VEE = Order(4, ((0, 1), (0, 2)))


def comparable(order, x, y):
    return (x, y) in relation(order) or (y, x) in relation(order)


def all_chains(order, near):
    """Return the ascending tuples of points in which any two are comparable (near) or none are."""
    pairs = relation(order)
    sets = [points_of(bits) for bits in range(2**order.n)]
    return [
        points for points in sets
        if all(((x, y) in pairs or (y, x) in pairs) == near for x, y in itertools.combinations(points, 2))
    ]


def is_parting_of(order, parting, near):
    """Tell by the definition if a tuple of tuples of points is a parting into chains (near) or antichains."""
    points = sorted(x for item in parting for x in item)
    return points == list(range(order.n)) and all(
        item and list(item) == sorted(item)
        and all(comparable(order, x, y) == near for x, y in itertools.combinations(item, 2))
        for item in parting
    )


def partings(n):
    """Generate all partings of the points into nonempty sets."""
    if n == 0:
        yield ()
        return
    for parting in partings(n - 1):
        yield parting + ((n - 1,),)
        for at in range(len(parting)):
            yield parting[:at] + (parting[at] + (n - 1,),) + parting[at + 1:]


class NamesTest(unittest.TestCase):
    def test_names(self):
        names = {
            "is_chain": "(order, points)", "is_antichain": "(order, points)", "rank_of": "(order, x)",
            "is_chain_parting": "(order, parting)", "is_antichain_parting": "(order, parting)",
        }
        for name in ("width", "largest_antichain", "chain_parting", "length", "longest_chain", "antichain_parting"):
            names[name] = "(order)"
        check_names(self, "chains", names)


class WidthTest(unittest.TestCase):
    def test_against_all_sets_of_points(self):
        for order in ORDERS:
            most = max(len(points) for points in all_chains(order, False))
            self.assertEqual(check_steady(self, width, order), most, str(order))
            told = check_steady(self, largest_antichain, order)
            self.assertIsInstance(told, tuple)
            self.assertIn(told, all_chains(order, False), str(order))
            self.assertEqual(len(told), most, str(order))
            check_truth(self, True, is_antichain(order, told))

    def test_parting_into_chains(self):
        for order in ORDERS:
            told = check_steady(self, chain_parting, order)
            self.assertIsInstance(told, tuple)
            self.assertTrue(all(isinstance(item, tuple) for item in told))
            self.assertTrue(is_parting_of(order, told, True), (str(order), told))
            self.assertEqual(len(told), width(order))
            self.assertEqual([item[0] for item in told], sorted(item[0] for item in told))
            check_truth(self, True, is_chain_parting(order, told))

    def test_no_parting_into_chains_is_smaller(self):
        for order in small_orders(4):
            sizes = [len(parting) for parting in partings(order.n) if is_parting_of(order, parting, True)]
            self.assertEqual(min(sizes), width(order))

    def test_antichain_is_the_one_of_the_cover(self):
        for order in ORDERS:
            matching = largest_matching(order.above, order.n)
            left, right = least_cover(order.above, order.n, matching)
            wanted = tuple(x for x in range(order.n) if not (left | right) >> x & 1)
            self.assertEqual(largest_antichain(order), wanted)

    def test_chains_are_those_of_the_matching(self):
        for order in ORDERS:
            places = {x: at for at, item in enumerate(chain_parting(order)) for x in item}
            for x, y in enumerate(largest_matching(order.above, order.n)):
                if y != -1:
                    self.assertEqual(places[x], places[y], str(order))

    def test_examples(self):
        self.assertEqual((width(EMPTY), largest_antichain(EMPTY), chain_parting(EMPTY)), (0, (), ()))
        chain = Order(10, [(x, x + 1) for x in range(9)])
        self.assertEqual((width(chain), chain_parting(chain)), (1, (tuple(range(10)),)))
        self.assertEqual(largest_antichain(Order(10, ())), tuple(range(10)))
        self.assertEqual(chain_parting(Order(3, ())), ((0,), (1,), (2,)))
        self.assertEqual(chain_parting(Order(4, ((3, 0), (2, 1)))), ((0, 3), (1, 2)))
        self.assertEqual(largest_antichain(VEE), (1, 2, 3))
        self.assertEqual(chain_parting(VEE), ((0, 1), (2,), (3,)))

    def test_chain_and_antichain_have_at_most_one_point_in_common(self):
        for order in small_orders(3) + greater_orders()[:2]:
            for chain, antichain in itertools.product(all_chains(order, True), all_chains(order, False)):
                self.assertLessEqual(len(set(chain) & set(antichain)), 1)


class LengthTest(unittest.TestCase):
    def test_against_all_sets_of_points(self):
        for order in ORDERS:
            most = max(len(points) for points in all_chains(order, True))
            self.assertEqual(check_steady(self, length, order), most, str(order))
            told = check_steady(self, longest_chain, order)
            self.assertIsInstance(told, tuple)
            self.assertIn(told, all_chains(order, True), str(order))
            self.assertEqual(len(told), most, str(order))
            check_truth(self, True, is_chain(order, told))

    def wanted_rank(self, order, x):
        below = [y for y in range(order.n) if (y, x) in relation(order)]
        return max(len(points) for points in all_chains(order, True) if set(points) <= {x, *below} and x in points) - 1

    def test_ranks(self):
        for order in small_orders(4) + greater_orders()[:4]:
            for x in range(order.n):
                self.assertEqual(check_steady(self, rank_of, order, x), self.wanted_rank(order, x), (str(order), x))

    def test_parting_into_antichains(self):
        for order in ORDERS:
            told = check_steady(self, antichain_parting, order)
            wanted = tuple(
                tuple(x for x in range(order.n) if rank_of(order, x) == rank) for rank in range(length(order))
            )
            self.assertEqual(told, wanted)
            self.assertTrue(is_parting_of(order, told, False), (str(order), told))
            self.assertEqual(len(told), length(order))
            check_truth(self, True, is_antichain_parting(order, told))

    def test_no_parting_into_antichains_is_smaller(self):
        for order in small_orders(4):
            sizes = [len(parting) for parting in partings(order.n) if is_parting_of(order, parting, False)]
            self.assertEqual(min(sizes), length(order))

    def test_examples(self):
        self.assertEqual((length(EMPTY), longest_chain(EMPTY), antichain_parting(EMPTY)), (0, (), ()))
        chain = Order(10, [(x + 1, x) for x in range(9)])
        self.assertEqual((length(chain), longest_chain(chain)), (10, tuple(range(10))))
        self.assertEqual(antichain_parting(chain), tuple((9 - x,) for x in range(10)))
        self.assertEqual([rank_of(chain, x) for x in range(10)], list(range(9, -1, -1)))
        self.assertEqual((length(Order(10, ())), antichain_parting(Order(10, ()))), (1, (tuple(range(10)),)))
        self.assertEqual(antichain_parting(VEE), ((0, 3), (1, 2)))
        self.assertEqual([rank_of(VEE, x) for x in range(4)], [0, 1, 1, 0])


class IsChainTest(unittest.TestCase):
    def test_each_row_of_points(self):
        for order in small_orders(3):
            chains, antichains = all_chains(order, True), all_chains(order, False)
            for size in range(5):
                for row in itertools.product(range(-1, 4), repeat=size):
                    check_truth(self, row in chains, is_chain(order, row), str(order), row)
                    check_truth(self, row in antichains, is_antichain(order, row), str(order), row)
                    check_truth(self, False, is_chain(order, list(row)))
                    check_truth(self, False, is_antichain(order, list(row)))

    def test_greater_orders(self):
        for order in greater_orders():
            chains, antichains = all_chains(order, True), all_chains(order, False)
            for bits in range(0, 2**order.n, 3):
                points = points_of(bits)
                check_truth(self, points in chains, is_chain(order, points))
                check_truth(self, points in antichains, is_antichain(order, points))

    def test_told_values(self):
        for order, call in ((Order(3, ((0, 1), (1, 2))), is_chain), (Order(3, ()), is_antichain)):
            for points in ((), (0,), (2,), (0, 1), (0, 2), (0, 1, 2)):
                check_truth(self, True, check_steady(self, call, order, points), points)
            wrong = (
                (1, 0), (0, 0), (0, 1, 1), (0, 2, 1), (0, 3), (3,), (-1,), (-1, 0), (0, True), (False,), (True,),
                [], [0], [0, 1], "0", "", 0, 3, None, True, (None,), ("0",), ((0,),), ([0],), (0, 2**70), (10**40,),
                order, (order,),
            )
            for points in wrong:
                check_truth(self, False, call(order, points), points)

    def test_every_value(self):
        for value in VALUES:
            for call in (is_chain, is_antichain):
                check_truth(self, type(value) is tuple and value == (), call(EMPTY, value), value)
                wanted = type(value) is tuple and value in ((), (0,)) and all(type(x) is int for x in value)
                check_truth(self, wanted, call(Order(1, ()), value), value)


class IsPartingTest(unittest.TestCase):
    def test_each_row_of_sets(self):
        for order in small_orders(3):
            sets = [points_of(bits) for bits in range(2**order.n)]
            for size in range(4):
                for parting in itertools.product(sets, repeat=size):
                    check_truth(self, is_parting_of(order, parting, True), is_chain_parting(order, parting))
                    check_truth(self, is_parting_of(order, parting, False), is_antichain_parting(order, parting))

    def test_each_parting_of_greater_orders(self):
        for order in small_orders(4)[-40:] + greater_orders()[:2]:
            for parting in partings(order.n):
                for row in (parting, parting[::-1]):
                    check_truth(self, is_parting_of(order, row, True), is_chain_parting(order, row))
                    check_truth(self, is_parting_of(order, row, False), is_antichain_parting(order, row))

    def test_told_values(self):
        chain, antichain = Order(3, ((0, 1), (1, 2))), Order(3, ())
        for order, call in ((chain, is_chain_parting), (antichain, is_antichain_parting)):
            for parting in (((0, 1, 2),), ((0, 2), (1,)), ((1,), (0, 2)), ((2,), (1,), (0,))):
                check_truth(self, True, check_steady(self, call, order, parting), parting)
            wrong = (
                (), ((),), ((0, 1),), ((0,), (1,)), ((0, 1), (1, 2)), ((0, 1, 2), (0,)), ((0,), (0,), (1,), (2,)),
                ((0, 1, 2, 3),), ((0, 1, 2), (3,)), ((0, 1, 2), ()), ((), (0, 1, 2)), ((1, 0, 2),), ((0,), (2, 1)),
                ((0, 0, 1, 2),), ((-1, 0, 1, 2),), [(0, 1, 2)], ([0, 1, 2],), ((0, 2), [1]), ((0, True, 2),),
                ((False, 1, 2),), ((0, 2), (True,)), (0, 1, 2), (0, (1, 2)), ((0, 1, 2), None), ((0, 1, "2"),),
                (((0, 1, 2),),), None, True, 0, 7, "012", order, (order,), ("0", "1", "2"), ((0, 1, 2**70),),
            )
            for parting in wrong:
                check_truth(self, False, call(order, parting), parting)
        check_truth(self, False, is_chain_parting(antichain, ((0, 1), (2,))))
        check_truth(self, False, is_antichain_parting(chain, ((0, 1), (2,))))
        check_truth(self, True, is_chain_parting(antichain, ((0,), (1,), (2,))))
        check_truth(self, True, is_antichain_parting(chain, ((2,), (0,), (1,))))

    def test_every_value(self):
        for value in VALUES:
            for call in (is_chain_parting, is_antichain_parting):
                check_truth(self, type(value) is tuple and value == (), call(EMPTY, value), value)
                one = type(value) is tuple and value == ((0,),) and type(value[0][0]) is int
                check_truth(self, one, call(Order(1, ()), value), value)

    def test_ten_points(self):
        for order in greater_orders():
            whole = bits_of(range(order.n))
            check_truth(self, order.is_chain(whole), is_chain_parting(order, (tuple(range(order.n)),)))
            check_truth(self, order.is_antichain(whole), is_antichain_parting(order, (tuple(range(order.n)),)))
            check_truth(self, True, is_chain_parting(order, tuple((x,) for x in range(order.n))))
            check_truth(self, False, is_chain_parting(order, tuple((x,) for x in range(order.n - 1))))


if __name__ == "__main__":
    unittest.main()
