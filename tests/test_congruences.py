"""orderforms.congruences: point 4.7."""

import itertools
import unittest

from helper import (
    NO_ROWS, VALUES, check_error, check_names, check_steady, check_truth, lattice_chain, lattice_fan,
    lattice_relation, small_lattices,
)
from orderforms.build import antichain
from orderforms.congruences import congruence, congruences, is_congruence, quotient
from orderforms.errors import Malformed, Refused
from orderforms.lattice import Lattice, lattice_of, lattice_product
from orderforms.order import Order

PENTAGON = Lattice(5, ((0, 1), (1, 2), (0, 3), (2, 4), (3, 4)))
SMALL = small_lattices(5) + small_lattices(6)[-40::7] + [Lattice(6, ((5, 4), (4, 0), (4, 3), (0, 2), (3, 2), (2, 1)))]


def partings(n):
    """Generate the tuples of the least numbers in the classes, for all partings of n members."""
    if n == 0:
        yield ()
        return
    for parting in partings(n - 1):
        for least in sorted(set(parting)) + [n - 1]:
            yield (*parting, least)


def keeps_classes(lattice, value):
    """Tell by the definition if a parting is a congruence."""
    places = range(len(lattice))
    return all(
        value[lattice.joined(x, z)] == value[lattice.joined(y, z)]
        and value[lattice.met(x, z)] == value[lattice.met(y, z)]
        for x in places for y in places if value[x] == value[y] for z in places
    )


def all_congruences(lattice):
    """Return the ascending list of all partings that are congruences."""
    return sorted(value for value in partings(len(lattice)) if keeps_classes(lattice, value))


def is_finer(one, two):
    """Tell if members in one class of the first parting are in one class of the second one."""
    return all(two[x] == two[k] for x, k in enumerate(one))


class NamesTest(unittest.TestCase):
    def test_names(self):
        check_names(self, "congruences", {
            "congruence": "(lattice, pairs)", "is_congruence": "(lattice, value)", "quotient": "(lattice, value)",
            "congruences": "(lattice)",
        })


class CongruenceTest(unittest.TestCase):
    def check_least(self, lattice, pairs, every):
        """Check that the told congruence holds the pairs and is finer than all others that do so."""
        told = check_steady(self, congruence, lattice, pairs)
        self.assertIsInstance(told, tuple)
        holding = [value for value in every if all(value[x] == value[y] for x, y in pairs)]
        self.assertIn(told, holding)
        self.assertTrue(all(is_finer(told, value) for value in holding), (lattice.above, pairs))

    def test_no_pair_and_one_pair(self):
        for lattice in SMALL:
            every = all_congruences(lattice)
            for pairs in ((), []):
                self.assertEqual(congruence(lattice, pairs), tuple(range(len(lattice))))
            for pair in itertools.product(range(len(lattice)), repeat=2):
                self.check_least(lattice, (pair,), every)

    def test_several_pairs(self):
        for lattice in SMALL[::3]:
            every = all_congruences(lattice)
            pairs = list(itertools.product(range(len(lattice)), repeat=2))
            for one, two in itertools.product(pairs[::3], pairs[::2]):
                self.check_least(lattice, [one, two], every)
                self.check_least(lattice, [two, one, two, (0, 0)], every)
            self.check_least(lattice, pairs, every)

    def test_equal_members(self):
        for lattice in SMALL + [lattice_chain(64)]:
            n = len(lattice)
            self.assertEqual(congruence(lattice, [(x, x) for x in range(n)]), tuple(range(n)))

    def test_examples(self):
        self.assertEqual(congruence(PENTAGON, ((1, 2),)), (0, 1, 1, 3, 4))
        self.assertEqual(congruence(PENTAGON, ((0, 1),)), (0, 0, 0, 3, 3))
        self.assertEqual(congruence(PENTAGON, ((0, 3),)), (0, 1, 1, 0, 1))
        self.assertEqual(congruence(PENTAGON, ((0, 1), (3, 0))), (0,) * 5)
        self.assertEqual(congruence(lattice_fan(5), [(1, 2)]), (0,) * 5)
        self.assertEqual(congruence(lattice_chain(5), [(3, 1)]), (0, 1, 1, 1, 4))
        self.assertEqual(congruence(lattice_chain(5), [(3, 4), (0, 1)]), (0, 0, 2, 3, 3))
        self.assertEqual(congruence(Lattice(1, ()), ()), (0,))

    def test_sixty_four_members(self):
        chain, cube = lattice_chain(64), lattice_of(antichain(6))
        self.assertEqual(congruence(chain, ((10, 20), (15, 40), (60, 62))),
                         tuple(10 if 10 <= x <= 40 else 60 if 60 <= x <= 62 else x for x in range(64)))
        self.assertEqual(congruence(chain, ((63, 0),)), (0,) * 64)
        told = congruence(cube, ((0, 1),))
        self.assertEqual(len(set(told)), 32)
        self.assertEqual(congruence(cube, ((0, 63),)), (0,) * 64)
        self.assertEqual(congruence(cube, [(0, x) for x in range(1, 7)]), (0,) * 64)

    def test_what_are_no_pairs_of_members(self):
        wrong = (
            0, None, True, "01", (), (0,), (0, 1, 2), [0, 1], (0, 5), (5, 0), (-1, 0), (0, -1),
            (0, True), (True, 2), (False, 1), ("0", "1"), (None, 1), ((0,), 1), (0, 2**70), PENTAGON,
        )
        for item in wrong:
            for pairs in ((item,), [item], ((0, 1), item), [item, (0, 1)]):
                check_error(self, Malformed, congruence, PENTAGON, pairs)
        for pairs in NO_ROWS + (PENTAGON, {}):
            check_error(self, Malformed, congruence, PENTAGON, pairs)
        check_error(self, Malformed, congruence, Lattice(1, ()), ((0, 1),))


class IsCongruenceTest(unittest.TestCase):
    def test_each_tuple_of_members(self):
        for lattice in small_lattices(4):
            every = all_congruences(lattice)
            for value in itertools.product(range(-1, len(lattice) + 1), repeat=len(lattice)):
                check_truth(self, value in every, is_congruence(lattice, value), lattice.above, value)
                check_truth(self, False, is_congruence(lattice, list(value)))

    def test_each_parting(self):
        for lattice in SMALL:
            every = all_congruences(lattice)
            for value in partings(len(lattice)):
                check_truth(self, value in every, check_steady(self, is_congruence, lattice, value))

    def test_told_values(self):
        for value in ((0, 1, 2, 3, 4), (0, 1, 1, 3, 4), (0, 0, 0, 3, 3), (0, 1, 1, 0, 1), (0, 0, 0, 0, 0)):
            check_truth(self, True, is_congruence(PENTAGON, value), value)
        wrong = (
            (0, 0, 2, 3, 4), (0, 1, 2, 3, 3), (0, 1, 2, 1, 4),
            (0, 2, 2, 3, 4), (4, 4, 4, 4, 4), (1, 1, 1, 3, 3), (0, 0, 0, 4, 4), (0, 0, 1, 3, 3), (2, 2, 2, 3, 3),
            [0, 1, 2, 3, 4], (0, 1, 2, 3), (0, 1, 2, 3, 4, 5), (0, 1, 2, 3, 4, 4), (), (0,), (0, 0, 0, 0),
            (0, True, 2, 3, 4), (False, 1, 2, 3, 4), (0, True, True, 3, 4), (0, 1, 1, 3, 5), (0, 1, 2, 3, -1),
            (0, 1, 2, 3, "4"), (0, 1, 2, 3, None), (0, 1, 2, 3, (4,)), (0, 1, 2, 3, 2**70), "01234", 0, None,
            PENTAGON, (PENTAGON,) * 5, ([0], 1, 2, 3, 4), (-1, -1, -1, -1, -1),
        )
        for value in wrong:
            check_truth(self, False, is_congruence(PENTAGON, value), value)

    def test_every_value(self):
        for value in VALUES:
            one = type(value) is tuple and value == (0,) and type(value[0]) is int
            check_truth(self, one, is_congruence(Lattice(1, ()), value), value)
            two = type(value) is tuple and value in ((0, 0), (0, 1)) and all(type(x) is int for x in value)
            check_truth(self, two, is_congruence(Lattice(2, ((1, 0),)), value), value)


class QuotientTest(unittest.TestCase):
    def test_joins_and_meets_of_classes(self):
        for lattice in SMALL:
            for value in all_congruences(lattice):
                told = check_steady(self, quotient, lattice, value)
                self.assertIsInstance(told, Lattice)
                heads = sorted(set(value))
                self.assertEqual(len(told), len(heads))
                number = [heads.index(k) for k in value]
                for x, y in itertools.product(range(len(lattice)), repeat=2):
                    self.assertEqual(told.joined(number[x], number[y]), number[lattice.joined(x, y)])
                    self.assertEqual(told.met(number[x], number[y]), number[lattice.met(x, y)])

    def test_ends(self):
        for lattice in SMALL + [lattice_chain(64), lattice_of(antichain(6))]:
            n = len(lattice)
            check_truth(self, True, quotient(lattice, tuple(range(n))) == lattice)
            check_truth(self, True, quotient(lattice, (0,) * n) == Lattice(1, ()))

    def test_examples(self):
        self.assertEqual(lattice_relation(quotient(PENTAGON, (0, 1, 1, 3, 4))), {(0, 1), (0, 2), (0, 3), (1, 3), (2, 3)})
        self.assertEqual(lattice_relation(quotient(PENTAGON, (0, 0, 0, 3, 3))), {(0, 1)})
        turned = Lattice(3, ((2, 1), (1, 0)))
        self.assertEqual(lattice_relation(quotient(turned, (0, 1, 1))), {(1, 0)})

    def test_what_is_no_congruence(self):
        for value in VALUES + ((0, 0, 2, 3, 4), (0, 2, 2, 3, 4), [0, 1, 2, 3, 4], (0, True, 2, 3, 4)):
            check_error(self, Refused, quotient, PENTAGON, value, reason="congruence")
        check_error(self, Refused, quotient, Lattice(1, ()), (1,), reason="congruence")


class CongruencesTest(unittest.TestCase):
    def test_against_all_partings(self):
        seven = lattice_product(lattice_chain(2), lattice_chain(3))
        for lattice in SMALL + [seven, lattice_chain(7), lattice_fan(7)]:
            told = check_steady(self, congruences, lattice)
            self.assertIsInstance(told, tuple)
            self.assertEqual(list(told), all_congruences(lattice), lattice.above)

    def test_examples(self):
        self.assertEqual(congruences(Lattice(1, ())), ((0,),))
        self.assertEqual(congruences(lattice_chain(2)), ((0, 0), (0, 1)))
        self.assertEqual(congruences(PENTAGON), (
            (0, 0, 0, 0, 0), (0, 0, 0, 3, 3), (0, 1, 1, 0, 1), (0, 1, 1, 3, 4), (0, 1, 2, 3, 4)))
        self.assertEqual(congruences(lattice_fan(5)), ((0,) * 5, (0, 1, 2, 3, 4)))

    def test_eight_members_and_more(self):
        self.assertEqual(len(congruences(lattice_chain(8))), 128)
        self.assertEqual(len(congruences(lattice_of(Order(3, ())))), 8)
        self.assertEqual(list(congruences(lattice_fan(8))), all_congruences(lattice_fan(8)))
        for lattice in (lattice_chain(9), lattice_fan(9), lattice_chain(64)):
            check_error(self, Refused, congruences, lattice, reason="large")


if __name__ == "__main__":
    unittest.main()
