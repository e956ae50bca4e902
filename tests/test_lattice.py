"""orderforms.lattice: points 4.3 and 4.4."""

import itertools
import unittest

from helper import (
    NO_INTEGERS, NO_ROWS, VALUES, at_most_pairs, bits_of, bound, check_class, check_error, check_names, check_steady,
    check_truth, closure, greater_orders, is_lattice, lattice_chain, lattice_fan, lattice_relation, lattice_relations,
    renumbered_relations, small_lattices, small_orders,
)
from orderforms.errors import Malformed, Refused
from orderforms.lattice import Lattice, irreducible_order, lattice_of, lattice_product
from orderforms.lower import lower_sets
from orderforms.order import Order

METHODS = {
    "__init__": "(self, n, pairs)", "__len__": "(self)", "__eq__": "(self, other)",
    "at_most": "(self, x, y)", "joined": "(self, x, y)", "met": "(self, x, y)", "least": "(self)",
    "greatest": "(self)", "covers": "(self)", "join_irreducibles": "(self)", "meet_irreducibles": "(self)",
    "complements": "(self, x)", "distributive_failure": "(self)", "modular_failure": "(self)",
    "is_distributive": "(self)", "is_modular": "(self)", "turned": "(self)",
}

CUBE = Lattice(64, [(x, y) for x in range(64) for y in range(64) if x != y and x & y == x])
PENTAGON = Lattice(5, ((0, 1), (1, 2), (0, 3), (2, 4), (3, 4)))
SMALL = small_lattices(6)
GREATER = [
    lattice_chain(9), lattice_chain(64), lattice_fan(5), lattice_fan(20), CUBE,
    Lattice(64, [(63 - x, 63 - y) for x, y in CUBE.covers()]),
    lattice_product(PENTAGON, lattice_fan(5)),
]


def by_parts(sets):
    """Return the number of some sets and the pairs of those that are parts of others."""
    places = list(itertools.permutations(range(len(sets)), 2))
    return len(sets), [(x, y) for x, y in places if sets[x] <= sets[y]]


def parallel_chains(sizes):
    """Return the number of members and the covers of chains of some sizes between a least and a greatest member."""
    pairs = []
    n = 1
    for size in sizes:
        row = [0, *range(n, n + size), sum(sizes) + 1]
        pairs += list(zip(row, row[1:]))
        n += size
    return n + 1, pairs


def set_rings():
    """Return numbers and pairs of orders of sets by inclusion, some of them lattices."""
    families = (
        [set()], [set(), {1}], [set(), {1}, {2}, {1, 2}], [set(), {1}, {2}], [{1}, {2}, {1, 2}],
        [set(), {1}, {2}, {1, 2, 3}], [set(), {1}, {2}, {1, 2, 3}, {1, 2, 4}, {1, 2, 3, 4}],
        [set(), {1}, {1, 2}, {3}, {1, 2, 3}], [set(points) for size in range(5) for points in
                                                itertools.combinations(range(4), size)],
        [set(points) for size in (0, 1, 3, 4) for points in itertools.combinations(range(4), size)],
        [set(points) for size in (0, 1, 2, 4) for points in itertools.combinations(range(4), size)],
    )
    return [by_parts(family) for family in families]


def some_relations():
    """Return numbers and pairs of orders, most of them lattices, of sets, chains, lower sets."""
    found = set_rings() + [parallel_chains(sizes) for sizes in ((), (1,), (1, 1), (2, 1), (3, 2, 1), (1, 1, 1, 1))]
    for order in small_orders(3) + greater_orders()[:2]:
        found.append(by_parts([set(x for x in range(order.n) if s >> x & 1) for s in lower_sets(order)]))
    return found


class NamesTest(unittest.TestCase):
    def test_names(self):
        check_names(self, "lattice", {
            "lattice_of": "(order)", "lattice_product": "(a, b)", "irreducible_order": "(lattice)",
            "images": "(lattice)",
        })
        check_class(self, "lattice", "Lattice", "(n, pairs)", METHODS)


class RelationTest(unittest.TestCase):
    def check_relation(self, n, pairs):
        wanted = closure(pairs)
        if any(x == y for x, y in wanted):
            check_error(self, Refused, Lattice, n, pairs, reason="cycle")
        elif not is_lattice(n, wanted):
            check_error(self, Refused, Lattice, n, pairs, reason="lattice")
        else:
            lattice = check_steady(self, Lattice, n, pairs)
            self.assertIsInstance(lattice, Lattice)
            self.assertIsInstance(lattice.above, tuple)
            self.assertEqual(lattice.above, tuple(bits_of([y for z, y in wanted if z == x]) for x in range(n)))
            self.assertEqual(check_steady(self, len, lattice), n)

    def test_each_set_of_pairs_of_up_to_three_members(self):
        for n in range(4):
            pairs = list(itertools.product(range(n), repeat=2))
            for size in range(len(pairs) + 1):
                for chosen in itertools.combinations(pairs, size):
                    self.check_relation(n, chosen)

    def test_each_order_of_four_members(self):
        for order in small_orders(4):
            self.check_relation(order.n, order.covers())
            self.check_relation(order.n, list(order.pairs()))

    def test_each_row_of_four_pairs_of_four_members(self):
        unlike = list(itertools.permutations(range(4), 2))
        for at, chosen in enumerate(itertools.product(unlike, repeat=4)):
            if at % 17 == 0:
                self.check_relation(4, list(chosen))

    def test_small_lattices_in_other_numberings(self):
        for n in range(1, 7):
            for pairs in lattice_relations(n):
                for made in renumbered_relations(n, pairs):
                    self.check_relation(n, tuple(made))

    def test_pairs_in_any_order_and_twice(self):
        pairs = ((0, 1), (1, 3), (0, 2), (2, 3))
        for row in itertools.permutations(pairs):
            self.assertEqual(Lattice(4, row).above, (14, 8, 8, 0))
            self.assertEqual(Lattice(4, list(row) + list(row)).above, (14, 8, 8, 0))
            self.assertEqual(Lattice(4, row + ((0, 3),)).above, (14, 8, 8, 0))

    def test_lattices_with_a_pair_left_out(self):
        for n, pairs in some_relations():
            self.check_relation(n, pairs)
            if n <= 16:
                for at in range(len(pairs)):
                    self.check_relation(n, pairs[:at] + pairs[at + 1:])

    def test_a_pair_left_out_makes_no_lattice(self):
        n, pairs = parallel_chains((2, 1))
        Lattice(n, pairs)
        for at in range(len(pairs)):
            check_error(self, Refused, Lattice, n, pairs[:at] + pairs[at + 1:], reason="lattice")

    def test_one_member(self):
        for pairs in ((), []):
            lattice = Lattice(1, pairs)
            self.assertEqual((len(lattice), lattice.above), (1, (0,)))
            self.assertEqual((lattice.least(), lattice.greatest(), lattice.covers()), (0, 0, ()))
            self.assertEqual((lattice.joined(0, 0), lattice.met(0, 0)), (0, 0))

    def test_sixty_four_members(self):
        chain = lattice_chain(64)
        self.assertEqual(chain.above, tuple(2**64 - 2 ** (x + 1) for x in range(64)))
        self.assertEqual(len(CUBE), 64)
        self.assertEqual(CUBE.above[0], 2**64 - 2)
        row = [37 * x % 64 for x in range(64)]
        turned = Lattice(64, tuple(zip(row[1:], row))[::-1])
        self.assertEqual((turned.least(), turned.greatest()), (row[63], row[0]))
        self.assertEqual(turned.covers(), tuple(sorted(zip(row[1:], row))))
        for x, y in itertools.product(range(64), repeat=2):
            self.assertEqual((CUBE.joined(x, y), CUBE.met(x, y)), (x | y, x & y))
            self.assertEqual((chain.joined(x, y), chain.met(x, y)), (max(x, y), min(x, y)))


class ErrorsTest(unittest.TestCase):
    def test_too_many_members(self):
        for n in (65, 66, 1000, 2**70):
            for pairs in ((), None, 7, "a", [0], ((0, 0),), ((0, 70),), {}):
                check_error(self, Refused, Lattice, n, pairs, reason="large")

    def test_number_of_members_that_is_none(self):
        for n in NO_INTEGERS + (-1, -65, -(2**70)):
            for pairs in ((), None, ((0, 0),), ((0, 1), (1, 0))):
                check_error(self, Malformed, Lattice, n, pairs)

    def test_pairs_that_are_no_list_or_tuple(self):
        for pairs in NO_ROWS + (Lattice(1, ()),):
            for n in (0, 1, 3):
                check_error(self, Malformed, Lattice, n, pairs)

    def test_items_that_are_no_pairs_of_members(self):
        wrong = (
            0, None, True, "01", (), (0,), (0, 1, 2), [0, 1], (0, 3), (3, 0), (-1, 0), (0, -1),
            (0, True), (True, 2), (False, 1), ("0", "1"), (None, 1), ((0,), 1), (0, 2**70), Order(2, ()),
        )
        good = ((0, 1), (1, 2))
        for item in wrong:
            for pairs in ((item,), [item], good + (item,), [item, *good]):
                check_error(self, Malformed, Lattice, 3, pairs)
        check_error(self, Malformed, Lattice, 1, ((0, 1),))

    def test_malformed_pairs_come_before_cycles_and_missing_bounds(self):
        for wrong in ((0, 3), [0, 1], None, (0, True)):
            check_error(self, Malformed, Lattice, 3, ((1, 1), wrong))
            check_error(self, Malformed, Lattice, 3, (wrong, (0, 1), (1, 0)))
            check_error(self, Malformed, Lattice, 3, (wrong,))
        check_error(self, Malformed, Lattice, 0, ((0, 0),))
        check_error(self, Malformed, Lattice, 0, (0,))

    def test_cycles_come_before_missing_bounds(self):
        check_error(self, Refused, Lattice, 1, ((0, 0),), reason="cycle")
        check_error(self, Refused, Lattice, 3, ((0, 1), (1, 0)), reason="cycle")
        check_error(self, Refused, Lattice, 4, ((0, 1), (2, 2)), reason="cycle")
        for size in (2, 3, 64):
            ring = [(x, (x + 1) % size) for x in range(size)]
            check_error(self, Refused, Lattice, size, ring, reason="cycle")
            self.assertEqual(len(Lattice(size, ring[1:])), size)

    def test_no_members_and_missing_bounds(self):
        check_error(self, Refused, Lattice, 0, (), reason="lattice")
        check_error(self, Refused, Lattice, 0, [], reason="lattice")
        check_error(self, Refused, Lattice, 2, (), reason="lattice")
        check_error(self, Refused, Lattice, 64, (), reason="lattice")
        no_join = ((0, 1), (0, 2))
        check_error(self, Refused, Lattice, 3, no_join, reason="lattice")
        check_error(self, Refused, Lattice, 3, [(y, x) for x, y in no_join], reason="lattice")

    def test_bounds_that_are_not_least(self):
        crossed = ((0, 1), (0, 2), (1, 3), (1, 4), (2, 3), (2, 4), (3, 5), (4, 5))
        check_error(self, Refused, Lattice, 6, crossed, reason="lattice")
        self.assertEqual(len(Lattice(6, crossed[:3] + crossed[4:])), 6)


class BasicsTest(unittest.TestCase):
    def test_equality_of_lattices(self):
        few = small_lattices(4)
        for one, two in itertools.product(few, repeat=2):
            check_truth(self, one.above == two.above, one == two)
            check_truth(self, one.above != two.above, one != two)
        check_truth(self, True, Lattice(3, ((0, 1), (1, 2))) == Lattice(3, [(1, 2), (0, 2), (0, 1)]))
        check_truth(self, False, Lattice(2, ((0, 1),)) == Lattice(2, ((1, 0),)))

    def test_equality_with_other_values(self):
        for lattice in (Lattice(1, ()), Lattice(2, ((1, 0),)), PENTAGON):
            more = (lattice.above, len(lattice), [lattice], (lattice,), Order(len(lattice), lattice.covers()))
            for value in VALUES + more:
                if not isinstance(value, Lattice):
                    check_truth(self, False, lattice == value, value)
                    check_truth(self, True, lattice != value, value)
        self.assertIn(Lattice(1, ()), VALUES)

    def test_two_members(self):
        for lattice in SMALL + GREATER[:4]:
            n, pairs = len(lattice), lattice_relation(lattice)
            turned = {(y, x) for x, y in pairs}
            near = at_most_pairs(n, pairs)
            for x, y in itertools.product(range(n), repeat=2):
                check_truth(self, (x, y) in near, lattice.at_most(x, y), pairs, x, y)
                if n <= 20:
                    self.assertEqual(lattice.joined(x, y), bound(n, pairs, x, y), (pairs, x, y))
                    self.assertEqual(lattice.met(x, y), bound(n, turned, x, y), (pairs, x, y))

    def test_ends(self):
        for lattice in SMALL + GREATER:
            near = at_most_pairs(len(lattice), lattice_relation(lattice))
            low, high = check_steady(self, lattice.least), check_steady(self, lattice.greatest)
            self.assertTrue(all((low, x) in near and (x, high) in near for x in range(len(lattice))))

    def test_covers(self):
        for lattice in SMALL + GREATER[:4]:
            pairs = lattice_relation(lattice)
            places = range(len(lattice))
            wanted = [(x, y) for x, y in pairs if not any((x, z) in pairs and (z, y) in pairs for z in places)]
            self.assertEqual(check_steady(self, lattice.covers), tuple(sorted(wanted)))
        self.assertEqual(PENTAGON.covers(), ((0, 1), (0, 3), (1, 2), (2, 4), (3, 4)))

    def test_turned(self):
        for lattice in SMALL + GREATER:
            turned = check_steady(self, Lattice.turned, lattice)
            self.assertIsInstance(turned, Lattice)
            self.assertEqual(lattice_relation(turned), {(y, x) for x, y in lattice_relation(lattice)})
            check_truth(self, True, turned.turned() == lattice)
            self.assertEqual((turned.least(), turned.greatest()), (lattice.greatest(), lattice.least()))


class IrreducibleTest(unittest.TestCase):
    def wanted(self, lattice):
        """Return the members other than the least one that are not the join of two members below them."""
        pairs, n = lattice_relation(lattice), len(lattice)
        found = []
        for x in range(n):
            below = [y for y in range(n) if (y, x) in pairs]
            if below and not any(bound(n, pairs, y, z) == x for y, z in itertools.product(below, repeat=2)):
                found.append(x)
        return tuple(found)

    def test_against_the_definition(self):
        for lattice in SMALL + [GREATER[0], GREATER[2]]:
            self.assertEqual(check_steady(self, lattice.join_irreducibles), self.wanted(lattice))
            self.assertEqual(check_steady(self, lattice.meet_irreducibles), self.wanted(lattice.turned()))

    def test_irreducibles_of_examples(self):
        self.assertEqual((PENTAGON.join_irreducibles(), PENTAGON.meet_irreducibles()), ((1, 2, 3), (1, 2, 3)))
        self.assertEqual(CUBE.join_irreducibles(), (1, 2, 4, 8, 16, 32))
        self.assertEqual(CUBE.meet_irreducibles(), (31, 47, 55, 59, 61, 62))
        self.assertEqual(lattice_chain(64).join_irreducibles(), tuple(range(1, 64)))
        self.assertEqual(lattice_chain(64).meet_irreducibles(), tuple(range(63)))
        self.assertEqual(lattice_fan(20).join_irreducibles(), tuple(range(1, 19)))
        self.assertEqual((Lattice(1, ()).join_irreducibles(), Lattice(1, ()).meet_irreducibles()), ((), ()))
        lattice = lattice_of(Order(3, ((0, 2),)))
        self.assertEqual((lattice.join_irreducibles(), lattice.meet_irreducibles()), ((1, 2, 4), (2, 3, 4)))

    def test_each_member_is_a_join_of_irreducibles(self):
        for lattice in SMALL + GREATER:
            near = at_most_pairs(len(lattice), lattice_relation(lattice))
            for x in range(len(lattice)):
                joined, met = lattice.least(), lattice.greatest()
                for y in lattice.join_irreducibles():
                    joined = lattice.joined(joined, y) if (y, x) in near else joined
                for y in lattice.meet_irreducibles():
                    met = lattice.met(met, y) if (x, y) in near else met
                self.assertEqual((joined, met), (x, x))

    def test_complements(self):
        for lattice in SMALL + GREATER[2:4]:
            n, pairs = len(lattice), lattice_relation(lattice)
            turned = {(y, x) for x, y in pairs}
            low = [x for x in range(n) if not any(z == x for y, z in pairs)][0]
            high = [x for x in range(n) if not any(y == x for y, z in pairs)][0]
            for x in range(n):
                wanted = [y for y in range(n) if bound(n, pairs, x, y) == high and bound(n, turned, x, y) == low]
                self.assertEqual(check_steady(self, Lattice.complements, lattice, x), tuple(wanted))

    def test_complements_of_examples(self):
        self.assertEqual([PENTAGON.complements(x) for x in range(5)], [(4,), (3,), (3,), (1, 2), (0,)])
        self.assertEqual([lattice_chain(3).complements(x) for x in range(3)], [(2,), (), (0,)])
        self.assertEqual(Lattice(1, ()).complements(0), (0,))
        self.assertEqual([CUBE.complements(x) for x in range(64)], [(63 - x,) for x in range(64)])
        self.assertEqual(lattice_fan(6).complements(2), (1, 3, 4))


class SteadyTest(unittest.TestCase):
    def test_objects_and_arguments_do_not_change(self):
        pairs = [(0, 1), (1, 2)]
        lattice = Lattice(3, pairs)
        pairs.append((2, 0))
        self.assertEqual(lattice.above, (6, 4, 0))
        for name in METHODS:
            if METHODS[name] == "(self)":
                check_steady(self, getattr(Lattice, name), lattice)
        for call in (Lattice.at_most, Lattice.joined, Lattice.met):
            check_steady(self, call, lattice, 0, 2)
        check_steady(self, lattice_product, lattice, PENTAGON)
        check_steady(self, irreducible_order, lattice)
        self.assertEqual(lattice.above, (6, 4, 0))


if __name__ == "__main__":
    unittest.main()
