"""orderforms.order: points 1.2, 1.3 and 1.4."""

import ast
import inspect
import itertools
import unittest

from helper import (
    NO_INTEGERS, NO_ROWS, PACKAGE, VALUES, bits_of, check_error, check_names, check_steady, check_truth, closure,
    greater_orders, points_of, relation, small_orders,
)
from orderforms.errors import Malformed, Refused
from orderforms.order import Order, read_order

ORDERS = small_orders(4) + greater_orders()

METHODS = {
    "__len__": "(self)", "__eq__": "(self, other)", "__str__": "(self)",
    "size": "(self)", "below": "(self)", "less": "(self, x, y)", "at_most": "(self, x, y)",
    "related": "(self, x, y)", "pairs": "(self)", "covers": "(self)", "minimal": "(self)", "maximal": "(self)",
    "turned": "(self)", "part": "(self, bits)", "renumbered": "(self, images)",
    "is_chain": "(self, bits)", "is_antichain": "(self, bits)",
}


class NamesTest(unittest.TestCase):
    def test_names(self):
        check_names(self, "order", {"read_order": "(text)"})
        tree = ast.parse((PACKAGE / "order.py").read_text())
        defined = [node.name for node in tree.body if isinstance(node, ast.ClassDef)]
        self.assertEqual(defined.count("Order"), 1)
        self.assertEqual(str(inspect.signature(Order)), "(n, pairs)")

    def test_methods_stand_in_the_class_itself(self):
        for name, parameters in METHODS.items():
            self.assertIn(name, vars(Order))
            self.assertEqual(str(inspect.signature(vars(Order)[name])), parameters)


class RelationTest(unittest.TestCase):
    def check_relation(self, n, pairs):
        wanted = closure(pairs)
        if any(x == y for x, y in wanted):
            check_error(self, Refused, Order, n, pairs, reason="cycle")
            return
        order = check_steady(self, Order, n, pairs)
        self.assertEqual(order.n, n)
        self.assertIsInstance(order.above, tuple)
        self.assertEqual(len(order.above), n)
        self.assertEqual(relation(order), wanted)

    def test_each_set_of_pairs_of_up_to_three_points(self):
        for n in range(4):
            pairs = list(itertools.product(range(n), repeat=2))
            for size in range(len(pairs) + 1):
                for chosen in itertools.combinations(pairs, size):
                    self.check_relation(n, chosen)

    def test_each_row_of_three_pairs_of_four_points(self):
        unlike = list(itertools.permutations(range(4), 2))
        for chosen in itertools.product(unlike, repeat=3):
            self.check_relation(4, list(chosen))

    def test_pairs_in_any_order_and_twice(self):
        wanted = (14, 12, 8, 0)
        for pairs in itertools.permutations(((0, 1), (1, 2), (2, 3))):
            self.assertEqual(Order(4, pairs).above, wanted)
            self.assertEqual(Order(4, list(pairs) + list(pairs)).above, wanted)
            self.assertEqual(Order(4, pairs + ((0, 3), (0, 2))).above, wanted)

    def test_long_rows_of_pairs(self):
        for points in (range(10), range(9, -1, -1), (5, 3, 8, 0, 9, 1, 7, 2, 6, 4)):
            row = list(zip(list(points), list(points)[1:]))
            for pairs in (row, row[::-1], row[1::2] + row[::2]):
                self.check_relation(10, pairs)
                self.assertEqual(sum(len(points_of(bits)) for bits in Order(10, pairs).above), 45)

    def test_greater_orders(self):
        for order in greater_orders():
            self.check_relation(order.n, order.covers())

    def test_without_points(self):
        for pairs in ((), []):
            order = Order(0, pairs)
            self.assertEqual((order.n, order.above), (0, ()))

    def test_rings(self):
        for size in range(1, 11):
            ring = [(x, (x + 1) % size) for x in range(size)]
            check_error(self, Refused, Order, size, ring, reason="cycle")
            check_error(self, Refused, Order, 10, tuple(ring[::-1]), reason="cycle")
            if size > 1:
                self.assertEqual(len(Order(size, ring[1:])), size)

    def test_a_ring_beside_other_points(self):
        check_error(self, Refused, Order, 6, ((0, 1), (1, 2), (3, 4), (4, 5), (5, 3)), reason="cycle")
        check_error(self, Refused, Order, 1, ((0, 0),), reason="cycle")
        check_error(self, Refused, Order, 3, ((2, 2),), reason="cycle")


class ErrorsTest(unittest.TestCase):
    def test_number_of_points_that_is_none(self):
        for n in NO_INTEGERS + (-1, -11, -(2**70)):
            check_error(self, Malformed, Order, n, ())

    def test_too_many_points(self):
        self.assertEqual(Order(10, ()).n, 10)
        for n in (11, 12, 64, 2**70):
            check_error(self, Refused, Order, n, (), reason="large")

    def test_pairs_that_are_no_list_or_tuple(self):
        for pairs in NO_ROWS:
            check_error(self, Malformed, Order, 3, pairs)

    def test_items_that_are_no_pairs_of_points(self):
        wrong = (
            0, None, True, "01", (), (0,), (0, 1, 2), [0, 1], (0, 3), (3, 0), (-1, 0), (0, -1),
            (0, True), (True, 2), (False, 1), ("0", "1"), (None, 1), ((0,), 1), (0, 2**70), Order(2, ()),
        )
        for item in wrong:
            for pairs in ((item,), [item], ((0, 1), item), [item, (0, 1)]):
                check_error(self, Malformed, Order, 3, pairs)
        check_error(self, Malformed, Order, 0, ((0, 0),))
        check_error(self, Malformed, Order, 1, ((0, 1),))

    def test_the_number_of_points_comes_before_the_pairs(self):
        for pairs in (None, 7, "a", [0], ((0, 0),), ((0, 50),)):
            check_error(self, Refused, Order, 11, pairs, reason="large")
            check_error(self, Malformed, Order, -1, pairs)
            check_error(self, Malformed, Order, True, pairs)

    def test_malformed_pairs_come_before_rings(self):
        for wrong in ((0, 3), [0, 1], None, (0, True)):
            check_error(self, Malformed, Order, 3, ((1, 1), wrong))
            check_error(self, Malformed, Order, 3, (wrong, (0, 1), (1, 0)))


class BasicsTest(unittest.TestCase):
    def test_number_of_points(self):
        for order in ORDERS:
            self.assertEqual(check_steady(self, len, order), order.n)
            self.assertEqual(check_steady(self, order.size), order.n)

    def test_equality_of_orders(self):
        for one in small_orders(3):
            for two in small_orders(3):
                wanted = one.n == two.n and relation(one) == relation(two)
                check_truth(self, wanted, one == two)
                check_truth(self, not wanted, one != two)
        check_truth(self, True, Order(3, ((0, 1), (1, 2))) == Order(3, [(1, 2), (0, 2), (0, 1)]))
        check_truth(self, False, Order(3, ()) == Order(4, ()))

    def test_equality_with_other_values(self):
        for order in (Order(0, ()), Order(1, ()), Order(2, ((0, 1),))):
            for value in VALUES + (order.above, str(order), order.n, (order.n, order.above), [order], (order,)):
                if not isinstance(value, Order):
                    check_truth(self, False, order == value, value)
                    check_truth(self, True, order != value, value)
        self.assertIn(Order(2, ((0, 1),)), VALUES)

    def test_relations_of_two_points(self):
        for order in ORDERS:
            told = relation(order)
            for x, y in itertools.product(range(order.n), repeat=2):
                check_truth(self, (x, y) in told, order.less(x, y), str(order), x, y)
                check_truth(self, x == y or (x, y) in told, order.at_most(x, y), str(order), x, y)
                wanted = x == y or (x, y) in told or (y, x) in told
                check_truth(self, wanted, order.related(x, y), str(order), x, y)

    def test_relations_of_an_example(self):
        order = Order(4, ((0, 1), (1, 3)))
        self.assertEqual([order.less(0, y) for y in range(4)], [False, True, False, True])
        self.assertEqual([order.at_most(0, y) for y in range(4)], [True, True, False, True])
        self.assertEqual([order.related(1, y) for y in range(4)], [True, True, False, True])

    def test_chains_and_antichains(self):
        for order in ORDERS:
            told = relation(order)
            if order.n > 8:
                continue
            for bits in range(2**order.n):
                unlike = list(itertools.combinations(points_of(bits), 2))
                near = [(x, y) in told or (y, x) in told for x, y in unlike]
                check_truth(self, all(near), order.is_chain(bits), str(order), bits)
                check_truth(self, not any(near), order.is_antichain(bits), str(order), bits)

    def test_empty_set_and_one_point_are_both(self):
        for order in ORDERS:
            for bits in (0, *[2**x for x in range(order.n)]):
                check_truth(self, True, order.is_chain(bits))
                check_truth(self, True, order.is_antichain(bits))
        check_truth(self, True, Order(10, [(x, x + 1) for x in range(9)]).is_chain(1023))
        check_truth(self, True, Order(10, ()).is_antichain(1023))


class CoversTest(unittest.TestCase):
    def test_below(self):
        for order in ORDERS:
            told = relation(order)
            wanted = tuple(bits_of([x for x, z in told if z == y]) for y in range(order.n))
            self.assertEqual(check_steady(self, order.below), wanted)

    def test_pairs(self):
        for order in ORDERS:
            self.assertEqual(check_steady(self, order.pairs), tuple(sorted(relation(order))))

    def test_covers(self):
        for order in ORDERS:
            told = relation(order)
            wanted = [(x, y) for x, y in told if not any((x, z) in told and (z, y) in told for z in range(order.n))]
            self.assertEqual(check_steady(self, order.covers), tuple(sorted(wanted)))

    def test_covers_of_an_example(self):
        order = Order(4, ((0, 1), (1, 3), (0, 3), (2, 3)))
        self.assertEqual(order.covers(), ((0, 1), (1, 3), (2, 3)))
        self.assertEqual(order.pairs(), ((0, 1), (0, 3), (1, 3), (2, 3)))

    def test_order_of_the_covers_is_the_order(self):
        for order in ORDERS:
            check_truth(self, True, Order(order.n, order.covers()) == order)
            check_truth(self, True, Order(order.n, order.pairs()) == order)

    def test_minimal_and_maximal(self):
        for order in ORDERS:
            told = relation(order)
            above_some = {y for x, y in told}
            below_some = {x for x, y in told}
            self.assertEqual(check_steady(self, order.minimal), bits_of(set(range(order.n)) - above_some))
            self.assertEqual(check_steady(self, order.maximal), bits_of(set(range(order.n)) - below_some))
            self.assertEqual(order.minimal() > 0, order.n > 0)
            self.assertEqual(order.maximal() > 0, order.n > 0)

    def test_minimal_and_maximal_of_an_example(self):
        order = Order(4, ((0, 1), (1, 3)))
        self.assertEqual((order.minimal(), order.maximal()), (5, 12))
        self.assertEqual((Order(0, ()).minimal(), Order(0, ()).maximal()), (0, 0))


class MadeTest(unittest.TestCase):
    def test_turned(self):
        for order in ORDERS:
            turned = check_steady(self, order.turned)
            self.assertIsInstance(turned, Order)
            self.assertEqual(turned.n, order.n)
            self.assertEqual(relation(turned), {(y, x) for x, y in relation(order)})
            check_truth(self, True, turned.turned() == order)

    def test_part(self):
        for order in small_orders(4) + greater_orders()[:4]:
            told = relation(order)
            for bits in range(2**order.n):
                points = points_of(bits)
                part = check_steady(self, order.part, bits)
                self.assertEqual(part.n, len(points))
                wanted = {(points.index(x), points.index(y)) for x, y in told if x in points and y in points}
                self.assertEqual(relation(part), wanted)

    def test_part_of_the_empty_set_and_of_all_points(self):
        for order in ORDERS:
            check_truth(self, True, order.part(0) == Order(0, ()))
            check_truth(self, True, order.part(2**order.n - 1) == order)

    def test_part_of_an_example(self):
        order = Order(4, ((0, 1), (1, 3), (2, 3)))
        self.assertEqual(str(order.part(9)), "2: 0<1")
        self.assertEqual(str(order.part(14)), "3: 0<2 1<2")

    def test_part_of_what_is_no_set(self):
        for n in (0, 1, 3, 10):
            for bits in NO_INTEGERS + (-1, 2**n, 2**n + 1, 2**70):
                check_error(self, Malformed, Order(n, ()).part, bits)

    def test_renumbered(self):
        for order in small_orders(4) + greater_orders()[:1]:
            for images in itertools.permutations(range(order.n)):
                made = check_steady(self, order.renumbered, images)
                self.assertEqual(made.n, order.n)
                self.assertEqual(relation(made), {(images[x], images[y]) for x, y in relation(order)})

    def test_renumbered_example(self):
        self.assertEqual(str(Order(3, ((0, 1),)).renumbered((2, 0, 1))), "3: 2<0")

    def test_renumbered_by_what_is_none(self):
        order = Order(3, ((0, 1),))
        wrong = (
            [0, 1, 2], (0, 1), (0, 1, 1), (0, 0, 1), (0, 1, 3), (0, 1, -1), (0, 1, 2, 3), (0, 1, 2, 2),
            (0, True, 2), (False, 1, 2), (0, 1, "2"), (0, 1, None), (0, 1, (2,)), (), "012", None, 5, order,
            (0, 1, 2**70),
        )
        for images in wrong:
            check_error(self, Malformed, order.renumbered, images)
        for images in ([], (0,), None, 0):
            check_error(self, Malformed, Order(0, ()).renumbered, images)
        check_truth(self, True, Order(0, ()).renumbered(()) == Order(0, ()))
        check_error(self, Malformed, Order(2, ()).renumbered, (0, True))


class SteadyTest(unittest.TestCase):
    def test_objects_and_arguments_do_not_change(self):
        pairs = [(2, 1), (1, 0)]
        order = Order(3, pairs)
        pairs.append((0, 2))
        self.assertEqual((order.n, order.above), (3, (0, 1, 3)))
        for call in (order.turned, order.below, order.pairs, order.covers, order.minimal, order.maximal, order.size):
            check_steady(self, call)
        for call, arg in ((order.part, 5), (order.renumbered, (1, 0, 2)), (order.is_chain, 7), (str, order)):
            check_steady(self, call, arg)
        self.assertEqual((order.n, order.above), (3, (0, 1, 3)))

    def test_equal_texts_have_equal_orders(self):
        check_steady(self, read_order, "4: 0<1 1<3")


if __name__ == "__main__":
    unittest.main()
