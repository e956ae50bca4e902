"""orderforms.papers: papers of chapter 8, and fact 1 of point 0.4."""

import itertools
import unittest
import unittest.mock

from helper import (
    check_error, check_names, check_steady, check_truth, greater_orders, lattice_chain, lattice_fan, relation,
    small_lattices, small_orders,
)
from orderforms import papers
from orderforms.build import antichain, chain, ordinal, parallel, product
from orderforms.checker import takes_dimension, takes_lattice, takes_length, takes_pair, takes_width
from orderforms.dimension import least_realizer
from orderforms.errors import Refused
from orderforms.forms import alike, is_map
from orderforms.lattice import Lattice, images, lattice_of, lattice_product
from orderforms.lower import lower_sets
from orderforms.order import Order, read_order
from orderforms.papers import dimension_paper, lattice_paper, length_paper, pair_paper, width_paper

EMPTY = Order(0, ())
POINT = Order(1, ())
VEE = Order(3, ((0, 1), (0, 2)))
CROWN = Order(6, ((0, 4), (0, 5), (1, 3), (1, 5), (2, 3), (2, 4)))
PENTAGON = Lattice(5, ((0, 1), (1, 2), (0, 3), (2, 4), (3, 4)))
SMALL = small_orders(4)


def is_plain(value):
    """Tell if a value is made of tuples, strings and integers alone."""
    if type(value) is tuple:
        return all(is_plain(item) for item in value)
    return type(value) in (int, str)


def largest(order, related):
    """Return the number of points of a largest set any two points of which are related, or are not."""
    pairs = relation(order)
    sets = [part for size in range(order.n + 1) for part in itertools.combinations(range(order.n), size)]
    return max(len(part) for part in sets if all(
        ((x, y) in pairs or (y, x) in pairs) == related for x, y in itertools.combinations(part, 2)))


class NamesTest(unittest.TestCase):
    def test_names(self):
        names = {name: "(order)" for name in ("width_paper", "length_paper", "dimension_paper")}
        check_names(self, "papers", names | {"pair_paper": "(a, b)", "lattice_paper": "(lattice)"})


class CountPapersTest(unittest.TestCase):
    def test_width_and_length(self):
        for order in SMALL + greater_orders() + [CROWN, antichain(5), chain(7), product(chain(3), chain(3))]:
            for call, takes, word, related in (
                (width_paper, takes_width, "width", False), (length_paper, takes_length, "length", True),
            ):
                paper = check_steady(self, call, order)
                self.assertTrue(is_plain(paper))
                self.assertEqual((len(paper), paper[0]), (3, word))
                check_truth(self, True, takes(order, paper), str(order))
                # The set is a largest one, and no parting has fewer members.
                self.assertEqual((len(paper[1]), len(paper[2])), (largest(order, related),) * 2, str(order))

    def test_no_points(self):
        self.assertEqual((width_paper(EMPTY), length_paper(EMPTY)), (("width", (), ()), ("length", (), ())))
        self.assertEqual(width_paper(POINT), ("width", (0,), ((0,),)))


class PairPaperTest(unittest.TestCase):
    def check_paper(self, a, b):
        paper = check_steady(self, pair_paper, a, b)
        self.assertTrue(is_plain(paper))
        self.assertEqual((type(paper), len(paper)), (tuple, 2))
        check_truth(self, True, takes_pair(a, b, paper), str(a), str(b))
        self.assertEqual(paper[0], "map" if alike(a, b) else "none", (str(a), str(b)))
        if a.n != b.n:
            self.assertEqual(paper, ("none", ()))
        elif paper[0] == "map":
            self.assertTrue(is_map(a, b, paper[1]))

    def test_small_orders(self):
        for a, b in itertools.product(small_orders(3), repeat=2):
            self.check_paper(a, b)
        for a, b in itertools.product(SMALL[24::8], SMALL[2::9]):
            self.check_paper(a, b)

    def test_greater_orders(self):
        for order in greater_orders() + [CROWN]:
            n = order.n
            other = order.renumbered(tuple((x + 2) % n for x in range(n)))
            self.check_paper(order, other)
        for a, b in (
            (CROWN, Order(6, ((0, 3), (1, 3), (1, 4), (2, 4), (2, 5)))), (chain(10), antichain(10)),
            (antichain(10), chain(10)),
            (chain(10), ordinal(chain(8), antichain(2))), (antichain(10), antichain(9)), (EMPTY, chain(10)),
            (CROWN, CROWN.renumbered((3, 4, 5, 0, 1, 2))), (parallel(chain(5), chain(5)), parallel(chain(4), chain(6))),
        ):
            self.check_paper(a, b)
            self.check_paper(b, a)

    def test_told_papers(self):
        self.assertEqual(pair_paper(EMPTY, EMPTY), ("map", ()))
        self.assertEqual(pair_paper(chain(2), antichain(2)), ("none", (((0,), (1,)), ())))
        self.assertEqual(pair_paper(chain(2), Order(2, ((1, 0),))), ("map", (1, 0)))
        self.assertEqual(pair_paper(chain(3), VEE), ("none", (((0,), (1,), (2,)), ((0, 1), (0, 2)), ())))

    def test_more_than_2000_partial_maps(self):
        # The first seven points of the one may go to any seven points of the other.
        a, b = parallel(antichain(5), chain(2)), parallel(antichain(4), chain(3))
        self.check_paper(a, b)
        for a, b in (
            (parallel(antichain(7), chain(2)), ordinal(antichain(8), POINT)),
            (parallel(antichain(8), chain(2)), parallel(antichain(7), ordinal(antichain(2), POINT))),
            (antichain(10), parallel(antichain(8), chain(2))),
        ):
            check_error(self, Refused, pair_paper, a, b, reason="large")
        # With a map, the number of partial maps does not matter.
        self.check_paper(antichain(10), antichain(10))

    def test_at_the_bound(self):
        a, b = read_order("10: 0<2 1<6 3<8 9<8"), read_order("10: 2<3 6<5 6<9 7<2")
        self.assertEqual(max(len(level) for level in pair_paper(a, b)[1]), 1992)
        self.check_paper(a, b)
        # No pair of orders with exactly 2000 or 2001 is known here, so the bound itself is moved to 1992.
        self.assertEqual(papers.MOST_IN_LEVEL, 2000)
        with unittest.mock.patch.object(papers, "MOST_IN_LEVEL", 1992):
            self.check_paper(a, b)
        with unittest.mock.patch.object(papers, "MOST_IN_LEVEL", 1991):
            check_error(self, Refused, pair_paper, a, b, reason="large")
        # The greatest level has 2016 partial maps here.
        a, b = read_order("10: 4<5 5<3 5<9 6<9 7<0 9<0"), read_order("10: 0<4 3<0 3<8 9<2 9<7")
        check_error(self, Refused, pair_paper, a, b, reason="large")


class LatticePaperTest(unittest.TestCase):
    def test_lattices(self):
        square = lattice_product(lattice_chain(2), lattice_chain(2))
        for lattice in small_lattices(6) + [
            lattice_product(PENTAGON, lattice_chain(2)), lattice_product(square, lattice_chain(3)), lattice_fan(64),
            lattice_chain(11), lattice_product(lattice_chain(8), lattice_chain(4)),
        ] + [lattice_of(order) for order in SMALL + greater_orders() if len(lower_sets(order)) <= 64]:
            paper = check_steady(self, lattice_paper, lattice)
            self.assertTrue(is_plain(paper))
            check_truth(self, True, takes_lattice(lattice, paper), paper)
            if lattice.is_distributive():
                self.assertEqual(paper, ("lower", len(lattice.join_irreducibles()), images(lattice)))
            else:
                self.assertEqual(paper, ("failure", lattice.distributive_failure()))

    def test_told_papers(self):
        self.assertEqual(lattice_paper(PENTAGON), ("failure", (2, 1, 3)))
        self.assertEqual(lattice_paper(lattice_chain(3)), ("lower", 2, (0, 1, 3)))
        self.assertEqual(lattice_paper(lattice_chain(1)), ("lower", 0, (0,)))

    def test_more_than_ten_join_irreducible_members(self):
        for lattice in (lattice_chain(12), lattice_chain(64), lattice_product(lattice_chain(11), lattice_chain(3))):
            check_error(self, Refused, lattice_paper, lattice, reason="large")
        # A lattice that is not distributive has a paper, whatever the number of these members is.
        self.assertEqual(lattice_paper(lattice_fan(14)), ("failure", (1, 2, 3)))


class DimensionPaperTest(unittest.TestCase):
    def test_orders_of_up_to_six_points(self):
        for order in SMALL + greater_orders()[:2] + [
            CROWN, CROWN.turned().renumbered((4, 0, 2, 5, 1, 3)), antichain(6), chain(6), parallel(VEE, VEE),
            Order(6, ((5, 3), (5, 0), (4, 1), (3, 2), (0, 2))), Order(5, ((1, 0), (1, 3), (2, 3), (2, 4))),
        ]:
            paper = check_steady(self, dimension_paper, order)
            self.assertTrue(is_plain(paper))
            self.assertEqual(paper, ("dimension", least_realizer(order)))
            check_truth(self, True, takes_dimension(order, paper), str(order))

    def test_told_papers(self):
        self.assertEqual(dimension_paper(EMPTY), ("dimension", ((),)))
        self.assertEqual(dimension_paper(VEE), ("dimension", ((0, 1, 2), (0, 2, 1))))
        self.assertEqual(len(dimension_paper(CROWN)[1]), 3)

    def test_more_than_six_points(self):
        for order in (chain(7), antichain(7), *greater_orders()[2:]):
            check_error(self, Refused, dimension_paper, order, reason="large")


if __name__ == "__main__":
    unittest.main()
