"""orderforms.forms: points 7.1 to 7.5, and fact 4 of point 0.4."""

import itertools
import math
import unittest

from helper import (
    VALUES, bits_of, check_error, check_names, check_steady, check_truth, greater_orders, points_of, relation,
    small_orders,
)
from orderforms.build import antichain, chain, lexicographic, ordinal, parallel, product
from orderforms.errors import Refused
from orderforms.forms import (
    alike, all_maps, find_map, form, group_order, is_map, least_renumberings, least_row, self_maps, twin_classes,
)
from orderforms.order import Order

EMPTY = Order(0, ())
POINT = Order(1, ())
VEE = Order(3, ((0, 1), (0, 2)))
CROWN = Order(6, ((0, 4), (0, 5), (1, 3), (1, 5), (2, 3), (2, 4)))
SMALL = small_orders(4)
MIDDLE = [
    Order(5, ((4, 0), (0, 2), (3, 2))), Order(5, ((1, 0), (1, 3), (2, 3), (2, 4))), Order(5, ((4, 1),)),
    Order(5, ((0, 3), (1, 3), (1, 4), (2, 4))), antichain(5), parallel(VEE, chain(2)), ordinal(antichain(2), VEE),
    CROWN, Order(6, ((5, 3), (5, 0), (4, 1), (3, 2), (0, 2))), Order(6, ((1, 0), (3, 2), (5, 4))), chain(6),
    Order(6, ((0, 3), (1, 3), (1, 4), (2, 4), (2, 5))), product(chain(2), chain(3)),
    ordinal(antichain(3), antichain(3)),
]
# Seven minimal points no two of which are twins, below three others.
BROAD = Order(10, ((0, 7), (1, 8), (2, 9), (3, 7), (3, 8), (4, 7), (4, 9), (5, 8), (5, 9)))
TWINS = [
    antichain(10), ordinal(antichain(5), antichain(5)), parallel(antichain(5), ordinal(antichain(2), antichain(3))),
    lexicographic(antichain(2), antichain(5)), ordinal(ordinal(antichain(3), antichain(4)), antichain(3)),
]


def walked(order):
    """Return the list of the ascending renumberings, each with its row, by the definition."""
    pairs = relation(order)
    found = []
    for images in itertools.permutations(range(order.n)):
        if all(images[x] < images[y] for x, y in pairs):
            row = [0] * order.n
            for x, y in pairs:
                row[images[y]] += 2 ** images[x]
            found.append((tuple(row), images))
    return found


def walked_maps(a, b):
    """Return the ascending list of all maps from a to b, found among all renumberings."""
    if a.n != b.n:
        return []
    pairs, wanted = relation(a), relation(b)
    return [f for f in itertools.permutations(range(a.n)) if {(f[x], f[y]) for x, y in pairs} == wanted]


def are_twins(order, x, y):
    pairs = relation(order)
    return all(((z, x) in pairs) == ((z, y) in pairs) and ((x, z) in pairs) == ((y,
        z) in pairs) for z in range(order.n))


def some_renumbered(order):
    """Return the order with its points numbered otherwise in some ways."""
    n = order.n
    return [order.renumbered(images) for images in (
        tuple(range(n - 1, -1, -1)), tuple((x + 1) % n for x in range(n)),
        tuple(list(range(0, n, 2)) + list(range(1, n, 2))),
    )]


class NamesTest(unittest.TestCase):
    def test_names(self):
        names = {name: "(order)" for name in (
            "least_row", "form", "least_renumberings", "twin_classes", "group_order", "self_maps",
        )}
        names |= {name: "(a, b)" for name in ("alike", "find_map", "all_maps")}
        names |= {"is_map": "(a, b, f)"}
        check_names(self, "forms", names)


class FormTest(unittest.TestCase):
    def test_least_row_and_form_against_all_ascending_renumberings(self):
        for order in SMALL + MIDDLE:
            wanted = min(row for row, images in walked(order))
            told = check_steady(self, least_row, order)
            self.assertEqual((type(told), told), (tuple, wanted), str(order))
            self.assertTrue(all(type(item) is int for item in told))
            found = check_steady(self, form, order)
            self.assertIs(type(found), Order)
            self.assertEqual((found.n, found.below()), (order.n, wanted), str(order))

    def test_form_of_renumbered_orders_and_of_forms(self):
        for order in SMALL[1:] + MIDDLE + greater_orders() + TWINS + [BROAD]:
            one = form(order)
            for other in some_renumbered(order):
                self.assertEqual((form(other), least_row(other)), (one, least_row(order)), str(order))
            self.assertEqual((form(one), least_row(one)), (one, least_row(order)), str(order))
        for order in MIDDLE[:9]:
            for images in list(itertools.permutations(range(order.n)))[::5]:
                self.assertEqual(form(order.renumbered(images)), form(order))

    def test_examples(self):
        self.assertEqual(least_row(Order(3, ((2, 0), (2, 1)))), (0, 1, 1))
        self.assertEqual(least_row(chain(4).turned()), (0, 1, 3, 7))
        self.assertEqual(str(form(Order(4, ((3, 1),)))), "4: 0<3")
        self.assertEqual(str(form(CROWN.turned())), "6: 0<3 0<4 1<3 1<5 2<4 2<5")

    def test_no_points_and_ten_points(self):
        self.assertEqual((least_row(EMPTY), form(EMPTY), least_renumberings(EMPTY)), ((), EMPTY, ((),)))
        self.assertEqual((least_row(POINT), form(POINT)), ((0,), POINT))
        self.assertEqual((least_row(antichain(10)), form(antichain(10))), ((0,) * 10, antichain(10)))
        self.assertEqual(least_row(chain(10).turned()), tuple(2**k - 1 for k in range(10)))
        self.assertEqual(form(chain(10).turned()), chain(10))
        self.assertEqual(least_row(TWINS[1]), (0,) * 5 + (31,) * 5)
        self.assertEqual(least_row(TWINS[3].turned()), (0,) * 10)
        self.assertEqual(least_row(TWINS[2]), (0,) * 7 + (3,) * 3)
        self.assertEqual(least_row(BROAD), (0,) * 7 + (7, 25, 42))


class AlikeTest(unittest.TestCase):
    def check_pair(self, a, b):
        maps = walked_maps(a, b)
        about = (str(a), str(b))
        check_truth(self, bool(maps), check_steady(self, alike, a, b), *about)
        self.assertEqual(form(a) == form(b), bool(maps), about)
        found = check_steady(self, find_map, a, b)
        if maps:
            self.assertIsInstance(found, tuple)
            self.assertIn(found, maps, about)
            check_truth(self, True, is_map(a, b, found))
        else:
            self.assertIsNone(found, about)
        told = check_steady(self, all_maps, a, b)
        self.assertEqual((type(told), list(told)), (tuple, maps), about)
        self.assertTrue(all(type(f) is tuple for f in told))

    def test_pairs_of_small_orders(self):
        for a, b in itertools.product(small_orders(3), repeat=2):
            self.check_pair(a, b)
        for a, b in itertools.product(SMALL[24::9], SMALL[2::7]):
            self.check_pair(a, b)

    def test_pairs_of_greater_orders(self):
        for order in MIDDLE:
            for other in some_renumbered(order):
                self.check_pair(order, other)
                self.check_pair(other, order)
        for a, b in itertools.product(MIDDLE, repeat=2):
            if a.n < 6:
                self.check_pair(a, b)
        self.check_pair(MIDDLE[9], MIDDLE[11])
        self.check_pair(CROWN, MIDDLE[10])

    def test_each_order_of_four_points_is_alike_to_its_form(self):
        forms = [form(order) for order in SMALL]
        for order, found in zip(SMALL, forms):
            check_truth(self, True, alike(order, found))
            self.assertNotEqual(walked_maps(order, found), [])
        texts = sorted({str(found) for found in forms})
        # The numbers of the orders of 0, 1, 2, 3 and 4 points up to names.
        self.assertEqual([sum(text.startswith(f"{n}:") for text in texts) for n in range(5)], [1, 1, 2, 5, 16])

    def test_ten_points(self):
        for order in greater_orders()[5:] + TWINS + [BROAD]:
            for other in some_renumbered(order):
                check_truth(self, True, alike(order, other))
                check_truth(self, True, is_map(order, other, find_map(order, other)))
        check_truth(self, False, alike(antichain(10), antichain(9)))
        check_truth(self, False, alike(BROAD, BROAD.turned()))
        self.assertIsNone(find_map(BROAD, greater_orders()[6]))


class RenumberingsTest(unittest.TestCase):
    def test_against_the_walked_ones(self):
        for order in SMALL + MIDDLE:
            rows = walked(order)
            least = min(row for row, images in rows)
            wanted = [
                images for row, images in rows if row == least and all(
                    images[x] < images[y] for y in range(order.n) for x in range(y) if are_twins(order, x, y)
                )
            ]
            told = check_steady(self, least_renumberings, order)
            self.assertEqual((type(told), list(told)), (tuple, wanted), str(order))
            self.assertTrue(all(type(images) is tuple for images in told))

    def test_as_many_with_the_least_row_as_self_maps(self):
        for order in SMALL + MIDDLE:
            rows = walked(order)
            least = min(row for row, images in rows)
            self.assertEqual(sum(row == least for row, images in rows), len(walked_maps(order, order)), str(order))

    def test_ten_points(self):
        for order in TWINS[:2]:
            self.assertEqual(least_renumberings(order), (tuple(range(10)),))
        self.assertEqual(least_renumberings(chain(10).turned()), (tuple(range(9, -1, -1)),))
        self.assertEqual(len(least_renumberings(BROAD)), 6)
        pairs = Order(10, [(2 * x, 2 * x + 1) for x in range(5)])
        told = least_renumberings(pairs)
        self.assertEqual((len(told), list(told)), (120, sorted(set(told))))
        self.assertEqual(told[0], (0, 5, 1, 6, 2, 7, 3, 8, 4, 9))


class TwinsTest(unittest.TestCase):
    def test_twin_classes(self):
        for order in SMALL + MIDDLE + greater_orders() + TWINS:
            wanted = []
            for x in range(order.n):
                points = tuple(y for y in range(order.n) if are_twins(order, x, y))
                if points not in wanted:
                    wanted.append(points)
            told = check_steady(self, twin_classes, order)
            self.assertEqual((type(told), list(told)), (tuple, wanted), str(order))
            self.assertTrue(all(type(points) is tuple for points in told))

    def test_told_classes(self):
        self.assertEqual(twin_classes(EMPTY), ())
        self.assertEqual(twin_classes(chain(3)), ((0,), (1,), (2,)))
        self.assertEqual(twin_classes(antichain(4)), ((0, 1, 2, 3),))
        self.assertEqual(twin_classes(Order(5, ((4, 1), (4, 3), (0, 1), (0, 3)))), ((0, 4), (1, 3), (2,)))

    def test_group_order_is_the_number_of_all_self_maps(self):
        for order in SMALL + MIDDLE:
            maps = walked_maps(order, order)
            self.assertEqual(check_steady(self, group_order, order), len(maps), str(order))
            told = check_steady(self, self_maps, order)
            self.assertEqual((type(told), list(told)), (tuple, maps), str(order))

    def test_known_numbers(self):
        for n in range(11):
            self.assertEqual(group_order(antichain(n)), math.factorial(n))
            self.assertEqual(group_order(chain(n)), 1)
        self.assertEqual(group_order(antichain(10)), 3628800)
        self.assertEqual(group_order(Order(4, ((0, 1), (2, 3)))), 2)
        self.assertEqual(group_order(greater_orders()[3]), 6)
        self.assertEqual(group_order(greater_orders()[6]), 120)
        self.assertEqual([group_order(order) for order in TWINS], [3628800, 14400, 1440, 3628800, 864])
        self.assertEqual(group_order(BROAD), 6)
        self.assertEqual(group_order(Order(10, [(x, x + 5) for x in range(5)])), 120)


class MapsTest(unittest.TestCase):
    def test_at_most_5040_maps(self):
        for a, b in ((antichain(7), antichain(7)), (ordinal(antichain(7), chain(3)), ordinal(antichain(7), chain(3)))):
            told = all_maps(a, b)
            self.assertEqual((len(told), list(told)), (5040, sorted(set(told))))
            self.assertTrue(all(is_map(a, b, f) for f in told[::97]))
        self.assertEqual(all_maps(antichain(7), antichain(7)), tuple(itertools.permutations(range(7))))
        self.assertEqual(len(self_maps(antichain(7))), 5040)
        for order, many in (
            (antichain(8), 40320), (antichain(10), 3628800), (TWINS[1], 14400),
            (ordinal(antichain(7), antichain(2)), 10080),
        ):
            self.assertEqual(group_order(order), many)
            for other in (order, form(order), some_renumbered(order)[1]):
                check_error(self, Refused, all_maps, order, other, reason="large")
            check_error(self, Refused, self_maps, order, reason="large")
        for order, many in ((parallel(antichain(7), chain(3)), 5040), (ordinal(antichain(6), antichain(3)), 4320)):
            self.assertEqual((group_order(order), len(self_maps(order))), (many, many))

    def test_no_maps_between_orders_that_are_not_alike(self):
        for a, b in ((antichain(8), antichain(9)), (antichain(10), TWINS[1]), (chain(3), VEE), (EMPTY, POINT)):
            self.assertEqual((all_maps(a, b), all_maps(b, a)), ((), ()))
            self.assertIsNone(find_map(a, b))
            self.assertIsNone(find_map(b, a))
        self.assertEqual((all_maps(EMPTY, EMPTY), find_map(EMPTY, EMPTY), self_maps(EMPTY)), (((),), (), ((),)))

    def test_maps_follow_one_another(self):
        a = MIDDLE[7]
        b = a.renumbered((3, 1, 5, 0, 2, 4))
        for f in all_maps(a, b):
            self.assertEqual(a.renumbered(f), b)
        self.assertEqual(len(all_maps(a, b)), 6)


class IsMapTest(unittest.TestCase):
    def test_each_row_of_points(self):
        for a, b in itertools.product(small_orders(3), small_orders(3)[::2]):
            maps = walked_maps(a, b)
            for size in range(5):
                for f in itertools.product(range(b.n + 1), repeat=size):
                    check_truth(self, f in maps, is_map(a, b, f), str(a), str(b), f)
            for f in maps:
                check_truth(self, True, check_steady(self, is_map, a, b, f))
                check_truth(self, False, is_map(a, b, list(f)))

    def test_told_values(self):
        wrong = (
            [0, 1, 2], (0, 1), (0, 1, 2, 2), (0, 1, 2, 3), (0, 1, 1), (0, 1, 3), (0, 1, -1), (-1, 1, 2), (0, True, 2),
            (False, 1, 2), (False, True, 2), (0, 1, "2"), (0, 1, None), (0, 1, (2,)), (0, 1, 2**70), (), None, True, 0,
            "012", VEE, (VEE,) * 3, ((0, 1, 2),), {}, {0: 0, 1: 1, 2: 2}, ("0", "1", "2"), (1, 0, 2), (2, 1, 0),
        )
        for f in ((0, 1, 2), (0, 2, 1)):
            check_truth(self, True, is_map(VEE, VEE, f))
        for f in wrong:
            check_truth(self, False, is_map(VEE, VEE, f), f)

    def test_unlike_numbers_of_points(self):
        for f in ((), (0,), (0, 1), (0, 1, 2)):
            check_truth(self, False, is_map(antichain(2), antichain(3), f))
            check_truth(self, False, is_map(antichain(3), antichain(2), f))
            check_truth(self, False, is_map(EMPTY, POINT, f))

    def test_every_value(self):
        for value in VALUES:
            check_truth(self, type(value) is tuple and value == (), is_map(EMPTY, EMPTY, value), value)
            one = type(value) is tuple and value == (0,) and type(value[0]) is int
            check_truth(self, one, is_map(POINT, POINT, value), value)
            check_truth(self, False, is_map(POINT, EMPTY, value), value)


class FactTest(unittest.TestCase):
    def test_forms_are_equal_exactly_for_alike_orders(self):
        seen = {}
        for order in SMALL:
            seen.setdefault(str(form(order)), []).append(order)
        # Within one form every order is found by renumbering the first one, and no order of another form is.
        for orders in seen.values():
            first = orders[0]
            made = {str(first.renumbered(f)) for f in itertools.permutations(range(first.n))}
            self.assertEqual(made, {str(order) for order in orders})

    def test_items_of_the_row_are_the_sets_below(self):
        for order in MIDDLE + greater_orders():
            found = relation(form(order))
            for k, item in enumerate(least_row(order)):
                self.assertEqual(points_of(item), tuple(x for x in range(order.n) if (x, k) in found))
                self.assertEqual(item, bits_of([x for x in range(k) if (x, k) in found]))


if __name__ == "__main__":
    unittest.main()
