"""orderforms.checker: chapter 8, and fact 1 of point 0.4."""

import ast
import itertools
import unittest

from helper import (
    PACKAGE, VALUES, check_error, check_names, check_steady, check_truth, greater_orders, lattice_chain, lattice_fan,
    relation, small_lattices, small_orders, twisted,
)
from orderforms.build import antichain, chain, ordinal, parallel
from orderforms.chains import length, width
from orderforms.checker import takes_dimension, takes_lattice, takes_length, takes_pair, takes_width
from orderforms.errors import Refused
from orderforms.lattice import Lattice, images, lattice_of, lattice_product
from orderforms.order import Order

EMPTY = Order(0, ())
POINT = Order(1, ())
VEE = Order(3, ((0, 1), (0, 2)))
MIXED = Order(4, ((3, 0), (3, 1), (2, 1)))
CROWN = Order(6, ((0, 4), (0, 5), (1, 3), (1, 5), (2, 3), (2, 4)))
PENTAGON = Lattice(5, ((0, 1), (1, 2), (0, 3), (2, 4), (3, 4)))
SQUARE = Lattice(4, ((0, 1), (0, 2), (1, 3), (2, 3)))


def ordered_partings(points):
    """Generate the tuples of ascending tuples, none empty, that have each of the points once, in each order."""
    if not points:
        yield ()
    for size in range(1, len(points) + 1):
        for part in itertools.combinations(points, size):
            for rest in ordered_partings([x for x in points if x not in part]):
                yield (part, *rest)


def is_free(order, points):
    return not any(pair in relation(order) for pair in itertools.product(points, repeat=2))


def is_row(order, points):
    pairs = relation(order)
    return all((x, y) in pairs or (y, x) in pairs for x, y in itertools.combinations(points, 2))


class NamesTest(unittest.TestCase):
    def test_names(self):
        names = {name: "(order, paper)" for name in ("takes_width", "takes_length", "takes_dimension")}
        check_names(self, "checker", names | {"takes_pair": "(a, b, paper)", "takes_lattice": "(lattice, paper)"})

    def test_the_checker_uses_no_finder(self):
        tree = ast.parse((PACKAGE / "checker.py").read_text())
        modules = {node.module for node in ast.walk(tree) if isinstance(node, ast.ImportFrom)}
        self.assertLessEqual(modules, {"orderforms.bits", "orderforms.errors", "orderforms.order"})
        # What it calls off an object: methods of orders and of builtin values, and of lattices these two alone.
        called = {node.func.attr for node in ast.walk(tree)
                  if isinstance(node, ast.Call) and isinstance(node.func, ast.Attribute)}
        self.assertIn("joined", called)
        self.assertIn("met", called)
        of_lattices = {name for name in vars(Lattice) if not name.startswith("_")} - {"joined", "met"}
        self.assertEqual(called & of_lattices - set(vars(Order)), set())
        self.assertEqual({name for name in called if name not in vars(Order)}, {"joined", "met"})
        for node in ast.walk(tree):
            if isinstance(node, ast.Attribute) and isinstance(node.value, ast.Name) and node.value.id == "lattice":
                self.assertIn(node.attr, ("joined", "met"))


class CountPapersTest(unittest.TestCase):
    """Papers of the width and of the length: point 8.1."""

    def check_all_papers(self, order):
        """Check each pair of a set of points and a parting of all points; return what is taken of both kinds."""
        points = range(order.n)
        partings = list(ordered_partings(list(points)))
        sets = [part for size in range(order.n + 1) for part in itertools.combinations(points, size)]
        taken = {"width": [], "length": []}
        for part, parting in itertools.product(sets, partings):
            even = len(part) == len(parting)
            wide = even and is_free(order, part) and all(is_row(order, one) for one in parting)
            long = even and is_row(order, part) and all(is_free(order, one) for one in parting)
            for word, call, wanted in (("width", takes_width, wide), ("length", takes_length, long)):
                check_truth(self, wanted, call(order, (word, part, parting)), str(order), part, parting)
                if wanted:
                    taken[word].append((part, parting))
        return taken

    def test_all_papers_of_small_orders(self):
        for order in small_orders(3) + small_orders(4)[24::12]:
            taken = self.check_all_papers(order)
            # There always are such papers, and all tell the same number: the largest and the smallest one at once.
            for word, most in (("width", width(order)), ("length", length(order))):
                self.assertEqual({len(part) for part, parting in taken[word]}, {most}, str(order))

    def test_papers_of_greater_orders(self):
        for order, part, parting in (
            (antichain(10), tuple(range(10)), tuple((x,) for x in range(10))), (chain(10), (4,), (tuple(range(10)),)),
            (CROWN, (0, 1, 2), ((0, 4), (1, 5), (2, 3))), (CROWN, (2, 5), ((1, 5), (0, 4), (2, 3))[:2]),
            (EMPTY, (), ()), (POINT, (0,), ((0,),)),
        ):
            wanted = len(part) != 2
            check_truth(self, wanted, check_steady(self, takes_width, order, ("width", part, parting)), str(order))
        check_truth(self, True, takes_length(CROWN, ("length", (1, 5), ((0, 1, 2), (3, 4, 5)))))
        check_truth(self, True, takes_length(CROWN, ("length", (0, 4), ((3, 4, 5), (0, 1, 2)))))
        check_truth(self, True, takes_length(chain(10), ("length", tuple(range(10)), tuple((x,) for x in range(10)))))
        check_truth(self, True, takes_length(antichain(10), ("length", (7,), (tuple(range(10)),))))
        check_truth(self, True, takes_length(EMPTY, ("length", (), ())))

    def test_each_way_to_spoil_a_width(self):
        right = ("width", (0, 2), ((1, 2, 3), (0,)))
        check_truth(self, True, takes_width(MIXED, ("width", (0, 2), ((1, 2), (0, 3)))))
        check_truth(self, False, takes_width(MIXED, right))
        for paper in (
            ("width", (2, 0), ((1, 2), (0, 3))), ("width", (0, 2), ((2, 1), (0, 3))),
            ("width", (0, 2), ((1, 2), (3, 0))),
            ("width", (0, 0), ((1, 2), (0, 3))), ("width", (0, 2), ((1, 2), (0, 3), ())),
            ("width", (0, 2), ((1, 2, 2), (0, 3))),
            ("width", (0, 2), ((), (1, 2), (0, 3))), ("width", (), ()), ("width", (0,), ((0, 1, 2, 3),)),
            ("width", (0, 3), ((1, 2), (0, 3))), ("width", (0, 2), ((0, 2), (1, 3))),
            ("width", (0, 2), ((1, 2), (0, 1, 3))),
            ("width", (0, 2), ((1, 2), (0,))), ("width", (0, 2), ((1, 2), (0, 4))), ("width", (0, 4), ((1, 2), (0, 3))),
            ("width", (0, 2), ((-1, 2), (0, 3))), ("width", (-2, 0), ((1, 2), (0, 3))),
            ("width", (0, 2), ((True, 2), (0, 3))),
            ("width", (False, 2), ((1, 2), (0, 3))), ("width", (0, 2), ((1, 2), (0,), (3,))),
            ("width", (0,), ((1, 2), (0, 3))),
            ("width", (0, 1, 2), ((1, 2), (0, 3), (3,))), ("width", (0, 2), ((1, 2), (1, 2), (0, 3))),
            ("length", (0, 2), ((1, 2), (0, 3))), ("Width", (0, 2), ((1, 2), (0, 3))), ("", (0, 2), ((1, 2), (0, 3))),
            ("width", (0, 2)), ("width",), (), ("width", (0, 2), ((1, 2), (0, 3)), ()),
            ("width", ((1, 2), (0, 3)), (0, 2)),
            ("width", (0, 2), ((1, 2), (0, 3), 5)), ("width", 2, 2), ["width", (0, 2), ((1, 2), (0, 3))],
            ("width", [0, 2], ((1, 2), (0, 3))), ("width", (0, 2), [(1, 2), (0, 3)]),
            ("width", (0, 2), ([1, 2], (0, 3))),
            ("width", (0, 2**70), ((1, 2), (0, 3))), ((0, 2), ((1, 2), (0, 3))), ("width", (0, (2,)), ((1, 2), (0, 3))),
        ):
            check_truth(self, False, takes_width(MIXED, paper), paper)

    def test_each_way_to_spoil_a_length(self):
        right = ("length", (1, 3), ((0, 1), (2, 3)))
        check_truth(self, True, takes_length(MIXED, right))
        check_truth(self, True, takes_length(MIXED, ("length", (1, 2), ((2, 3), (0, 1)))))
        for paper in (
            ("length", (3, 1), ((0, 1), (2, 3))), ("length", (1, 3), ((1, 0), (2, 3))),
            ("length", (1, 3), ((0, 1), (3, 2))),
            ("length", (1, 3), ((0, 1), (2, 3), ())), ("length", (0, 2), ((0, 1), (2, 3))),
            ("length", (2, 3), ((0, 1), (2, 3))),
            ("length", (1, 3), ((0, 2), (1, 3))), ("length", (1, 3), ((0, 3), (1, 2))),
            ("length", (1, 3), ((0, 1), (2,))),
            ("length", (1, 3), ((0, 1), (1, 2, 3))), ("length", (1, 3), ((0, 1, 2), (2, 3))),
            ("length", (1, 3), ((0, 1), (2, 4))),
            ("length", (1, 4), ((0, 1), (2, 3))), ("length", (True, 3), ((0, 1), (2, 3))),
            ("length", (1, 3), ((False, 1), (2, 3))),
            ("length", (1, 3), ((0, 1), (2,), (3,))), ("length", (1,), ((0, 1, 2, 3),)),
            ("length", (1, 3), ((0, 1), (2, 3), 7)),
            ("width", (1, 3), ((0, 1), (2, 3))), ("lengths", (1, 3), ((0, 1), (2, 3))), ("length", (1, 3)), ("length",),
            ["length", (1, 3), ((0, 1), (2, 3))], ("length", [1, 3], ((0, 1), (2, 3))),
            ("length", (1, 3), [(0, 1), (2, 3)]),
            ("length", (1, 3), ([0, 1], (2, 3))), ("length", (1, 3), ((0, 1), (2, 3)), None), ("length", (), ()),
            ("length", ((0, 1), (2, 3)), (1, 3)), ("length", (1, 1), ((0, 1), (2, 3))),
        ):
            check_truth(self, False, takes_length(MIXED, paper), paper)

    def test_other_kinds_and_every_value(self):
        for order, call, paper in (
            (MIXED, takes_width, ("width", (0, 2), ((1, 2), (0, 3)))), (VEE, takes_width, ("width", (1, 2), ((0, 1),
            (2,)))),
            (MIXED, takes_length, ("length", (1, 3), ((0, 1), (2, 3)))),
            (VEE, takes_length, ("length", (0, 1), ((0,), (1, 2)))),
            (EMPTY, takes_width, ("width", (), ())), (EMPTY, takes_length, ("length", (), ())),
        ):
            check_truth(self, True, check_steady(self, call, order, paper))
            for other in twisted(paper):
                check_truth(self, False, call(order, other), other)
        for value in VALUES:
            for order in (EMPTY, POINT, VEE):
                for call, word in ((takes_width, "width"), (takes_length, "length")):
                    check_truth(self, False, check_steady(self, call, order, value), value)
                    check_truth(self, False, call(order, (word, value, value, value)), value)
                    both = type(value) is tuple and value == () and order.n == 0
                    check_truth(self, both, call(order, (word, value, value)), value)
                    check_truth(self, False, call(order, (value, (), ())), value)


def walked_levels(a, b):
    """Return the levels of partial maps up to the first empty one, or up to the whole maps, by the definition."""
    below, others = relation(a), relation(b)
    levels = [((),)]
    for k in range(1, a.n + 1):
        # Without its last image a partial map is one, too.
        longer = [f + (y,) for f in levels[-1] for y in range(b.n) if y not in f]
        levels.append(tuple(f for f in longer if all(
            ((x, y) in below) == ((f[x], f[y]) in others) for x in range(k) for y in range(k)
        )))
        if not levels[-1]:
            break
    return tuple(levels[1:])


class PairTest(unittest.TestCase):
    def test_maps(self):
        for a, b in itertools.product(small_orders(3), repeat=2):
            levels = walked_levels(a, b)
            maps = () if a.n != b.n else ((),) if a.n == 0 else levels[-1]
            for f in itertools.product(range(b.n + 1), repeat=a.n):
                check_truth(self, f in maps, takes_pair(a, b, ("map", f)), str(a), str(b), f)
            for f in maps:
                check_truth(self, True, check_steady(self, takes_pair, a, b, ("map", f)))
                for other in twisted(("map", f)):
                    check_truth(self, False, takes_pair(a, b, other), other)
                for other in (("none", f), ("map", f, ()), ("map",), ("map", f + (0,)), ("map", f[:-1] + (a.n,)),
                    ("Map", f)):
                    check_truth(self, other == ("map", f), takes_pair(a, b, other), other)

    def test_levels(self):
        for a, b in itertools.product(small_orders(3) + small_orders(4)[30::25], repeat=2):
            if a.n == b.n > 0:
                levels = walked_levels(a, b)
                wanted = levels[-1] == ()
                check_truth(self, wanted, check_steady(self, takes_pair, a, b, ("none", levels)), str(a), str(b))
                for other in (levels + ((),), levels[:-1], levels[1:], levels[::-1], (), levels + (levels[-1],)):
                    told = takes_pair(a, b, ("none", other))
                    check_truth(self, wanted and other == levels, told, str(a), str(b), other)

    def test_unlike_numbers_of_points(self):
        for a, b in itertools.product((EMPTY, POINT, antichain(2), VEE, chain(10)), repeat=2):
            check_truth(self, a.n != b.n, takes_pair(a, b, ("none", ())), str(a), str(b))
            if a.n != b.n:
                for paper in (
                    ("none", ((),)), ("none", []), ("none", None), ("none",), ("none", (), ()), ["none", ()],
                    ("none", 0),
                    ("none", walked_levels(a, b)) if 0 < a.n < 4 else ("none", ((), ())), ("map", ()), ("none", ""),
                    ("map", tuple(range(a.n))), ("map", tuple(range(b.n))), ("no", ()), ("none", False),
                ):
                    check_truth(self, False, takes_pair(a, b, paper), str(a), str(b), paper)

    def test_each_way_to_spoil_levels(self):
        a, b = chain(3), VEE
        levels = walked_levels(a, b)
        self.assertEqual([len(level) for level in levels], [3, 2, 0])
        check_truth(self, True, takes_pair(a, b, ("none", levels)))
        check_truth(self, False, takes_pair(a, b, ("map", (0, 1, 2))))
        first, second, last = levels
        wrong = [
            (first, second), (first, second, last, last), (second, last), (first, last, second), (first, last),
            (first,),
            (last,), (), (last, second, first), (first[::-1], second, last), (first, second[::-1], last),
            (first[:-1], second, last), (first[1:], second, last), (first, second[:-1], last),
            (first, second[1:], last),
            (first + first[-1:], second, last), (first, second + ((1, 0),), last), (first, ((0, 1),) + second, last),
            (first, second, ((0, 1, 2),)), (first, second, second), (first, (), last), ((), (), ()),
            (first, second, last, last, last), (list(first), second, last), (first, second, []), (first, second, None),
            (first, tuple(list(f) for f in second), last), (((0,), (True,), (2,)), second, last),
            (((False,), (1,), (2,)), second, last), (tuple(y for f in first for y in f), second, last),
            ("abc", second, last), (first, second, ""), (first, second, 0),
        ]
        for other in wrong:
            check_truth(self, False, takes_pair(a, b, ("none", other)), other)
        for other in (list(levels), None, 0, "none", VEE):
            check_truth(self, False, takes_pair(a, b, ("none", other)), other)
        for other in itertools.islice(twisted(("none", levels)), 200):
            check_truth(self, False, takes_pair(a, b, other), other)
        # An empty level before the last one, and levels that go on behind the whole maps.
        one = walked_levels(chain(2), antichain(2))
        self.assertEqual(one, (((0,), (1,)), ()))
        check_truth(self, True, takes_pair(chain(2), antichain(2), ("none", one)))
        check_truth(self, False, takes_pair(chain(2), antichain(2), ("none", one + ((),))))
        for order in (POINT, antichain(2), chain(3), VEE):
            levels = walked_levels(order, order)
            for more in ((), ((),), ((), ()), (levels[-1],)):
                check_truth(self, False, takes_pair(order, order, ("none", levels + more)))
        check_truth(self, False, takes_pair(EMPTY, EMPTY, ("none", ())))
        check_truth(self, False, takes_pair(EMPTY, EMPTY, ("none", ((),))))
        check_truth(self, True, takes_pair(EMPTY, EMPTY, ("map", ())))

    def test_ten_points(self):
        a, b = chain(10), ordinal(chain(8), antichain(2))
        levels = walked_levels(a, b)
        check_truth(self, True, takes_pair(a, b, ("none", levels)))
        check_truth(self, True, takes_pair(a, a.turned(), ("map", tuple(range(9, -1, -1)))))
        check_truth(self, False, takes_pair(a, a, ("map", tuple(range(9, -1, -1)))))
        check_truth(self, True, takes_pair(antichain(10), antichain(10), ("map", (3, 1, 4, 0, 5, 9, 2, 6, 8, 7))))

    def test_more_partial_maps_than_papers_have(self):
        a, b = parallel(antichain(5), chain(2)), parallel(antichain(4), chain(3))
        levels = walked_levels(a, b)
        self.assertEqual(levels[-1], ())
        check_truth(self, True, takes_pair(a, b, ("none", levels)))
        check_truth(self, False, takes_pair(a, b, ("none", levels[:-2] + ((),))))

    def test_every_value(self):
        for value in VALUES:
            for a, b in ((EMPTY, EMPTY), (POINT, POINT), (POINT, EMPTY), (VEE, chain(3))):
                check_truth(self, False, check_steady(self, takes_pair, a, b, value), value)
                empty = type(value) is tuple and value == ()
                one = type(value) is tuple and value == (0,) and type(value[0]) is int
                check_truth(self, empty and a.n != b.n, takes_pair(a, b, ("none", value)), value)
                wanted = (empty and a.n == b.n == 0) or (one and a.n == b.n == 1)
                check_truth(self, wanted, takes_pair(a, b, ("map", value)), value)
                check_truth(self, False, takes_pair(a, b, (value, ())), value)


class LatticeTest(unittest.TestCase):
    LATTICES = small_lattices(5) + [lattice_product(SQUARE, lattice_chain(2)),
        lattice_product(PENTAGON, lattice_chain(2))]

    def test_failures(self):
        for lattice in self.LATTICES:
            places = range(len(lattice))
            for x, y, z in itertools.product(places, repeat=3):
                low = lattice.met(x, lattice.joined(y, z))
                wanted = low != lattice.joined(lattice.met(x, y), lattice.met(x, z))
                paper = ("failure", (x, y, z))
                check_truth(self, wanted, takes_lattice(lattice, paper), paper)
                check_truth(self, False, takes_lattice(lattice, ("failure", [x, y, z])))
        right = ("failure", (2, 1, 3))
        check_truth(self, True, check_steady(self, takes_lattice, PENTAGON, right))
        for other in twisted(right):
            check_truth(self, False, takes_lattice(PENTAGON, other), other)
        for other in (
            (2, 1), (2, 1, 3, 3), (), (2, True, 3), (2, 1, 5), (2, 1, -2), (2, 1, 2**70), (1, 2, 3), (0, 0, 0), None,
            (2, 1, "3"), 213, "213",
        ):
            check_truth(self, False, takes_lattice(PENTAGON, ("failure", other)), other)
        for paper in (("lower", (2, 1, 3)), ("failure", 3, (2, 1, 3)), ("fail", (2, 1, 3)), ("failure",),
            ("lower", 3, (2, 1, 3))):
            check_truth(self, False, takes_lattice(PENTAGON, paper), paper)

    def test_images(self):
        for lattice in self.LATTICES + [lattice_of(order) for order in small_orders(3)]:
            if lattice.is_distributive():
                told = images(lattice)
                n = len(lattice.join_irreducibles())
                for more in (n, n + 1, 64, 2**70):
                    check_truth(self, True, check_steady(self, takes_lattice, lattice, ("lower", more, told)))
                # Any numbers in the place of 0 to n - 1 do, and members that all sets have.
                moved = tuple(bits * 4 + 2 for bits in told)
                check_truth(self, True, takes_lattice(lattice, ("lower", n + 2, moved)))
                check_truth(self, False, takes_lattice(lattice, ("lower", n - 1, told)))
                for k in range(len(told)):
                    for bits in (told[k] ^ 1, told[k] | 2**n, told[k - 1], -1, told[k] + 1, 2**70):
                        paper = ("lower", n + 1, told[:k] + (bits,) + told[k + 1:])
                        wanted = self.is_right(lattice, paper)
                        check_truth(self, wanted, takes_lattice(lattice, paper), paper)

    def is_right(self, lattice, paper):
        told = paper[2]
        if len(set(told)) < len(told) or any(not 0 <= bits < 2 ** paper[1] for bits in told):
            return False
        return all(
            told[lattice.joined(x, y)] == told[x] | told[y] and told[lattice.met(x, y)] == told[x] & told[y]
            for x, y in itertools.product(range(len(told)), repeat=2)
        )

    def test_all_images_of_small_lattices(self):
        for lattice in (lattice_chain(1), lattice_chain(2), lattice_chain(3), SQUARE, lattice_fan(4)):
            for n in range(4 if len(lattice) < 4 else 3):
                for told in itertools.product(range(-1, 2**n + 1), repeat=len(lattice)):
                    paper = ("lower", n, told)
                    check_truth(self, self.is_right(lattice, paper), takes_lattice(lattice, paper), paper)
        # There is no such paper of a lattice that is not distributive.
        for lattice in (PENTAGON, lattice_fan(5)):
            for told in itertools.permutations(range(8), 5):
                check_truth(self, False, takes_lattice(lattice, ("lower", 3, told)))

    def test_each_way_to_spoil_images(self):
        right = ("lower", 2, (0, 1, 2, 3))
        check_truth(self, True, takes_lattice(SQUARE, right))
        check_truth(self, True, takes_lattice(SQUARE, ("lower", 2, (0, 2, 1, 3))))
        for other in twisted(right):
            check_truth(self, False, takes_lattice(SQUARE, other), other)
        for paper in (
            # Wrong joins (the join of 1 and 2 is 3), wrong meets, equal ones, sets beyond, one too few and too many.
            ("lower", 3, (0, 1, 2, 7)), ("lower", 3, (4, 1, 2, 3)), ("lower", 3, (0, 5, 6, 7)),
            ("lower", 2, (0, 1, 1, 1)),
            ("lower", 2, (0, 0, 3, 3)), ("lower", 1, (0, 1, 2, 3)), ("lower", 2, (4, 5, 6, 7)), ("lower", 2, (0, 1, 2)),
            ("lower", 2, (0, 1, 2, 3, 3)), ("lower", 2, ()), ("lower", -2, (0, 1, 2, 3)), ("lower", True, (0, 1, 2, 3)),
            ("lower", "2", (0, 1, 2, 3)), ("lower", None, (0, 1, 2, 3)), ("lower", 2, (0, True, 2, 3)),
            ("lower", 2, (False, 1, 2, 3)),
            ("lower", 2, (0, 1, -2, -1)), ("lower", 2, [0, 1, 2, 3]), ("lower", (0, 1, 2, 3), 2), ("lower", 2),
            ("lower",),
            ("failure", 2, (0, 1, 2, 3)), ("upper", 2, (0, 1, 2, 3)), ("lower", 2, (3, 1, 2, 0)),
            ("lower", 2, (0, 1, 2, 3), 0),
            ("lower", 2, ((0,), (1,), (2,), (3,))), ("lower", 2, ((), (0,), (1,), (0, 1))), ("lower", 2, "0123"),
        ):
            check_truth(self, False, takes_lattice(SQUARE, paper), paper)
        check_truth(self, True, takes_lattice(lattice_chain(1), ("lower", 0, (0,))))
        check_truth(self, True, takes_lattice(lattice_chain(1), ("lower", 3, (5,))))
        check_truth(self, False, takes_lattice(lattice_chain(1), ("lower", 0, (1,))))
        check_truth(self, False, takes_lattice(lattice_chain(2), ("lower", 1, (False, True))))

    def test_large_lattices(self):
        row = lattice_chain(64)
        check_truth(self, True, takes_lattice(row, ("lower", 63, tuple(2**x - 1 for x in range(64)))))
        check_truth(self, False, takes_lattice(row, ("lower", 62, tuple(2**x - 1 for x in range(64)))))
        check_truth(self, True, takes_lattice(lattice_fan(64), ("failure", (1, 2, 3))))

    def test_every_value(self):
        for value in VALUES:
            for lattice in (lattice_chain(1), SQUARE, PENTAGON):
                check_truth(self, False, check_steady(self, takes_lattice, lattice, value), value)
                check_truth(self, False, takes_lattice(lattice, ("failure", value)), value)
                fits = len(lattice) == 1 and type(value) is tuple and len(value) == 1
                whole = fits and type(value[0]) is int and value[0] in (0, 1, 2)
                check_truth(self, whole, takes_lattice(lattice, ("lower", 2, value)), value)
                check_truth(self, False, takes_lattice(lattice, (value, 2, (0, 1, 2, 3))), value)
                right = lattice == SQUARE and type(value) is int and value >= 2
                check_truth(self, right, takes_lattice(lattice, ("lower", value, (0, 1, 2, 3))), value)


def walked_rows(order):
    pairs = relation(order)
    return [
        row for row in itertools.permutations(range(order.n))
        if all(row.index(x) < row.index(y) for x, y in pairs)
    ]


def realizes(order, rows):
    common = set.intersection(*[set(itertools.combinations(row, 2)) for row in rows])
    return common == relation(order)


class DimensionTest(unittest.TestCase):
    def walked_dimension(self, order):
        rows = walked_rows(order)
        return next(size for size in (1, 2, 3, 4) if any(
            realizes(order, chosen) for chosen in itertools.combinations_with_replacement(rows, size)))

    def test_all_tuples_of_up_to_three_arrangements(self):
        for order in small_orders(3):
            rows = walked_rows(order)
            least = self.walked_dimension(order)
            for size in (1, 2, 3):
                for chosen in itertools.product(itertools.permutations(range(order.n)), repeat=size):
                    wanted = size == least and all(row in rows for row in chosen) and realizes(order, chosen)
                    check_truth(self, wanted, takes_dimension(order, ("dimension", chosen)), str(order), chosen)

    def test_tuples_of_linear_orders(self):
        for order in small_orders(4)[24::9] + [Order(5, ((1, 0), (1, 3), (2, 3), (2, 4))), MIXED]:
            rows = walked_rows(order)
            least = self.walked_dimension(order)
            for size in (1, 2, 3):
                chosen_ones = list(itertools.product(rows, repeat=size))
                for chosen in chosen_ones[::1 if len(chosen_ones) < 200 else len(chosen_ones) // 200]:
                    wanted = size == least and realizes(order, chosen)
                    told = check_steady(self, takes_dimension, order, ("dimension", chosen))
                    check_truth(self, wanted, told, str(order), chosen)

    def test_dimension_three(self):
        right = ("dimension", ((0, 1, 5, 2, 3, 4), (0, 2, 4, 1, 3, 5), (1, 2, 3, 0, 4, 5)))
        rows = right[1]
        for chosen in itertools.permutations(rows):
            check_truth(self, True, takes_dimension(CROWN, ("dimension", chosen)), chosen)
        check_truth(self, True, check_steady(self, takes_dimension, CROWN, right))
        for other in twisted(right):
            check_truth(self, False, takes_dimension(CROWN, other), other)
        for chosen in (rows + rows[:1], rows + rows, rows[:2], rows[1:], rows[:1], (), rows[:2] + rows[:1], rows * 40):
            check_truth(self, False, takes_dimension(CROWN, ("dimension", chosen)), chosen)
        self.assertEqual(self.walked_dimension(CROWN), 3)

    def test_six_points(self):
        up, down = tuple(range(6)), tuple(range(5, -1, -1))
        check_truth(self, True, takes_dimension(antichain(6), ("dimension", (up, down))))
        check_truth(self, True, takes_dimension(antichain(6), ("dimension", (down, up))))
        for chosen in ((up,), (up, up), (up, down, up), (up, down, up, down), (up, (5, 4, 3, 2, 0, 1)),
            (up, down) * 30):
            check_truth(self, False, takes_dimension(antichain(6), ("dimension", chosen)), chosen)
        check_truth(self, True, takes_dimension(chain(6), ("dimension", (up,))))
        for chosen in ((down,), (up, up), (up, down), (), (up, up, up, up)):
            check_truth(self, False, takes_dimension(chain(6), ("dimension", chosen)), chosen)

    def test_each_way_to_spoil_rows(self):
        right = ("dimension", ((0, 1, 2), (0, 2, 1)))
        check_truth(self, True, takes_dimension(VEE, right))
        for other in twisted(right):
            check_truth(self, False, takes_dimension(VEE, other), other)
        for chosen in (
            (), ((),), ((0, 1, 2),), ((0, 1, 2), (0, 1, 2)), ((0, 1, 2), (2, 0, 1)), ((0, 1, 2), (0, 2, 1), (0, 1, 2)),
            ((0, 1, 2), (0, 2)), ((0, 1, 2), (0, 2, 1, 1)), ((0, 1, 2), (0, 2, 3)), ((0, 1, 2), (0, 2, -1)),
            ((0, 1, 2), (0, 2, True)), ((False, 1, 2), (0, 2, 1)), ((0, 1, 2), (0, 2, 2)), (0, 1, 2), ("012", "021"),
        ):
            check_truth(self, False, takes_dimension(VEE, ("dimension", chosen)), chosen)
        for paper in (
            ("dimension",), ("dimension", right[1], ()), ("dimensions", right[1]), ("width", right[1]), list(right),
            right[1],
        ):
            check_truth(self, False, takes_dimension(VEE, paper), paper)
        check_truth(self, True, takes_dimension(EMPTY, ("dimension", ((),))))
        check_truth(self, False, takes_dimension(EMPTY, ("dimension", ())))
        check_truth(self, False, takes_dimension(EMPTY, ("dimension", ((), ()))))
        check_truth(self, True, takes_dimension(POINT, ("dimension", ((0,),))))

    def test_more_than_six_points(self):
        for order in (chain(7), antichain(7), *greater_orders()[2:]):
            for paper in (("dimension", (tuple(range(order.n)),)), None, (), ("width", (), ())):
                check_error(self, Refused, takes_dimension, order, paper, reason="large")

    def test_every_value(self):
        for value in VALUES:
            for order in (EMPTY, POINT, VEE):
                check_truth(self, False, check_steady(self, takes_dimension, order, value), value)
                check_truth(self, False, takes_dimension(order, (value, ((0,),))), value)
                fits = order.n < 2 and type(value) is tuple and value == (((),), ((0,),))[order.n]
                fits = fits and type(value[0]) is tuple and all(type(x) is int for x in value[0])
                check_truth(self, fits, takes_dimension(order, ("dimension", value)), value)


if __name__ == "__main__":
    unittest.main()
