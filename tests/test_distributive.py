"""orderforms.lattice: points 4.5 and 4.6."""

import itertools
import unittest

from helper import (
    bound, check_error, check_steady, check_truth, greater_orders, lattice_chain, lattice_fan,
    lattice_relation, points_of, relation, small_lattices, small_orders,
)
from orderforms.build import antichain, chain, ordinal, parallel
from orderforms.errors import Refused
from orderforms.lattice import Lattice, images, irreducible_order, lattice_of, lattice_product
from orderforms.lower import lower_sets
from orderforms.order import Order

PENTAGON = Lattice(5, ((0, 1), (1, 2), (0, 3), (2, 4), (3, 4)))
DIAMOND = lattice_fan(5)
SMALL = small_lattices(6) + [lattice_product(PENTAGON, lattice_chain(2)), lattice_product(DIAMOND, lattice_chain(2))]
ORDERS = [order for order in small_orders(4) + greater_orders() if len(lower_sets(order)) <= 64]


def tables(lattice):
    """Return the dicts of the joins and of the meets of two members, by their definition."""
    n, pairs = len(lattice), lattice_relation(lattice)
    turned = {(y, x) for x, y in pairs}
    places = list(itertools.product(range(n), repeat=2))
    return {(x, y): bound(n, pairs, x, y) for x, y in places}, {(x, y): bound(n, turned, x, y) for x, y in places}


def failures(lattice):
    """Return the lists of all failures of distributivity and of modularity, ascending."""
    join, meet = tables(lattice)
    triples = list(itertools.product(range(len(lattice)), repeat=3))
    uneven = [(x, y, z) for x, y, z in triples if meet[x, join[y, z]] != join[meet[x, y], meet[x, z]]]
    bent = [
        (x, y, z) for x, y, z in triples
        if join[x, z] == z and join[x, meet[y, z]] != meet[join[x, y], z]
    ]
    return uneven, bent


class FailureTest(unittest.TestCase):
    def test_least_failures(self):
        for lattice in SMALL:
            uneven, bent = failures(lattice)
            told = check_steady(self, Lattice.distributive_failure, lattice)
            self.assertEqual(told, uneven[0] if uneven else None)
            told = check_steady(self, Lattice.modular_failure, lattice)
            self.assertEqual(told, bent[0] if bent else None)
            check_truth(self, not uneven, lattice.is_distributive())
            check_truth(self, not bent, lattice.is_modular())

    def test_lattices_of_each_kind_occur(self):
        kinds = {(lattice.is_distributive(), lattice.is_modular()) for lattice in SMALL}
        self.assertEqual(kinds, {(True, True), (False, True), (False, False)})

    def test_pentagon(self):
        self.assertEqual(PENTAGON.modular_failure(), (1, 3, 2))
        self.assertEqual(PENTAGON.distributive_failure(), (2, 1, 3))
        check_truth(self, False, PENTAGON.is_modular())
        check_truth(self, False, PENTAGON.is_distributive())

    def test_diamond(self):
        self.assertIsNone(DIAMOND.modular_failure())
        self.assertEqual(DIAMOND.distributive_failure(), (1, 2, 3))
        check_truth(self, True, DIAMOND.is_modular())
        check_truth(self, False, DIAMOND.is_distributive())

    def test_distributive_lattices(self):
        cube = lattice_of(antichain(6))
        for lattice in (Lattice(1, ()), lattice_chain(2), lattice_chain(64), cube, lattice_fan(4)):
            self.assertIsNone(lattice.distributive_failure())
            self.assertIsNone(lattice.modular_failure())
            check_truth(self, True, lattice.is_distributive())
            check_truth(self, True, lattice.is_modular())

    def test_great_lattices_that_fail_late(self):
        lattice = Lattice(64, [(x, x + 1) for x in range(59)] + [(59, 60), (59, 61), (59, 62), (60, 63), (61, 63),
                                                                 (62, 63)])
        self.assertEqual(lattice.distributive_failure(), (60, 61, 62))
        self.assertIsNone(lattice.modular_failure())


class LatticeOfTest(unittest.TestCase):
    def test_lower_sets_in_their_order(self):
        for order in ORDERS:
            sets = lower_sets(order)
            lattice = check_steady(self, lattice_of, order)
            self.assertIsInstance(lattice, Lattice)
            self.assertEqual(len(lattice), len(sets))
            wanted = {(x, y) for x, s in enumerate(sets) for y, t in enumerate(sets) if s != t and s & t == s}
            self.assertEqual(lattice_relation(lattice), wanted, str(order))

    def test_joins_are_unions_and_meets_common_parts(self):
        for order in ORDERS:
            sets = lower_sets(order)
            lattice = lattice_of(order)
            check_truth(self, True, lattice.is_distributive())
            for x, y in itertools.product(range(len(sets)), repeat=2):
                self.assertEqual(sets[lattice.joined(x, y)], sets[x] | sets[y])
                self.assertEqual(sets[lattice.met(x, y)], sets[x] & sets[y])

    def test_lattices_of_lower_sets_of_examples(self):
        self.assertEqual(lattice_of(Order(0, ())).above, (0,))
        self.assertEqual(lattice_of(Order(1, ())).above, (2, 0))
        check_truth(self, True, lattice_of(chain(10)) == lattice_chain(11))
        self.assertEqual(lattice_of(Order(3, ((0, 2), (1, 2)))).covers(), ((0, 1), (0, 2), (1, 3), (2, 3), (3, 4)))

    def test_sixty_four_lower_sets_and_more(self):
        self.assertEqual(len(lattice_of(antichain(6))), 64)
        for order in (ordinal(antichain(6), chain(1)), antichain(7), antichain(10), parallel(antichain(5), chain(2))):
            check_error(self, Refused, lattice_of, order, reason="large")


class ProductTest(unittest.TestCase):
    def test_product_has_the_told_numbers(self):
        few = small_lattices(4) + [PENTAGON, DIAMOND]
        for a, b in itertools.product(few, few[::3]):
            told = check_steady(self, lattice_product, a, b)
            self.assertIsInstance(told, Lattice)
            self.assertEqual(len(told), len(a) * len(b))
            for x, z in itertools.product(range(len(a)), repeat=2):
                for y, w in itertools.product(range(len(b)), repeat=2):
                    wanted = a.at_most(x, z) and b.at_most(y, w)
                    check_truth(self, wanted, told.at_most(x * len(b) + y, z * len(b) + w))

    def test_product_of_an_example(self):
        told = lattice_product(Lattice(2, ((1, 0),)), lattice_chain(3))
        self.assertEqual(told.covers(), ((0, 1), (1, 2), (3, 0), (3, 4), (4, 1), (4, 5), (5, 2)))
        self.assertEqual((told.least(), told.greatest()), (3, 2))

    def test_sixty_four_members_and_more(self):
        for m, n in ((8, 8), (1, 64), (64, 1), (2, 32), (9, 7)):
            self.assertEqual(len(lattice_product(lattice_chain(m), lattice_chain(n))), m * n)
        for m, n in ((5, 13), (13, 5), (2, 33), (64, 2), (64, 64)):
            check_error(self, Refused, lattice_product, lattice_chain(m), lattice_chain(n), reason="large")


class IrreducibleOrderTest(unittest.TestCase):
    def test_order_of_any_lattice(self):
        for lattice in SMALL:
            told = check_steady(self, irreducible_order, lattice)
            self.assertIsInstance(told, Order)
            points = lattice.join_irreducibles()
            pairs = lattice_relation(lattice)
            wanted = {(points.index(x), points.index(y)) for x, y in pairs if x in points and y in points}
            self.assertEqual((told.n, relation(told)), (len(points), wanted))

    def test_examples(self):
        self.assertEqual(str(irreducible_order(PENTAGON)), "3: 0<1")
        self.assertEqual(str(irreducible_order(DIAMOND)), "3:")
        self.assertEqual(str(irreducible_order(Lattice(1, ()))), "0:")
        self.assertEqual(str(irreducible_order(Lattice(3, ((2, 1), (1, 0))))), "2: 1<0")

    def test_ten_irreducible_members_and_more(self):
        check_truth(self, True, irreducible_order(lattice_chain(11)) == chain(10))
        check_truth(self, True, irreducible_order(lattice_fan(12)) == antichain(10))
        for lattice in (lattice_chain(12), lattice_chain(64), lattice_fan(13), lattice_fan(64)):
            check_error(self, Refused, irreducible_order, lattice, reason="large")

    def test_the_order_comes_back_from_its_lower_sets(self):
        for order in ORDERS:
            # The point x belongs to the least lower set that holds it.
            hulls = [
                min((s for s in lower_sets(order) if s >> x & 1), key=lambda s: len(points_of(s)))
                for x in range(order.n)
            ]
            places = [lower_sets(order).index(hull) for hull in hulls]
            told = irreducible_order(lattice_of(order))
            numbers = tuple(sorted(places).index(place) for place in places)
            check_truth(self, True, order.renumbered(numbers) == told, str(order))

    def test_the_lattice_comes_back_from_its_irreducible_members(self):
        for lattice in SMALL:
            if lattice.is_distributive():
                told = images(lattice)
                sets = lower_sets(irreducible_order(lattice))
                self.assertEqual(sorted(told), sorted(sets))
                made = lattice_of(irreducible_order(lattice))
                numbers = [sets.index(image) for image in told]
                wanted = {(numbers[x], numbers[y]) for x, y in lattice_relation(lattice)}
                self.assertEqual(lattice_relation(made), wanted)


class ImagesTest(unittest.TestCase):
    def test_images(self):
        for lattice in SMALL:
            if not lattice.is_distributive():
                check_error(self, Refused, images, lattice, reason="distributive")
                continue
            told = check_steady(self, images, lattice)
            self.assertIsInstance(told, tuple)
            self.assertEqual(len(told), len(lattice))
            points = lattice.join_irreducibles()
            pairs = lattice_relation(lattice)
            for x, image in enumerate(told):
                wanted = [k for k, j in enumerate(points) if j == x or (j, x) in pairs]
                self.assertEqual(points_of(image), tuple(wanted))

    def test_joins_and_meets(self):
        for lattice in [lattice for lattice in SMALL if lattice.is_distributive()] + [lattice_of(antichain(6))]:
            told = images(lattice)
            self.assertEqual(len(set(told)), len(lattice))
            for x, y in itertools.product(range(len(lattice)), repeat=2):
                self.assertEqual(told[lattice.joined(x, y)], told[x] | told[y])
                self.assertEqual(told[lattice.met(x, y)], told[x] & told[y])

    def test_images_in_the_lattice_of_the_lower_sets(self):
        for order in ORDERS:
            told = images(lattice_of(order))
            self.assertEqual(sorted(told), sorted(lower_sets(irreducible_order(lattice_of(order)))))

    def test_examples(self):
        self.assertEqual(images(Lattice(1, ())), (0,))
        self.assertEqual(images(lattice_chain(3)), (0, 1, 3))
        self.assertEqual(images(Lattice(3, ((2, 1), (1, 0)))), (3, 2, 0))
        self.assertEqual(images(lattice_fan(4)), (0, 1, 2, 3))

    def test_large_comes_behind_distributive(self):
        self.assertEqual(images(lattice_chain(11)), tuple(2**x - 1 for x in range(11)))
        for lattice in (lattice_chain(12), lattice_chain(64)):
            check_error(self, Refused, images, lattice, reason="large")
        for lattice in (lattice_fan(13), lattice_fan(64), PENTAGON, DIAMOND):
            check_error(self, Refused, images, lattice, reason="distributive")


if __name__ == "__main__":
    unittest.main()
