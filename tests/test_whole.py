"""What the document promises over the whole program: points 0.1 to 0.4, and the examples of the interface."""

import ast
import inspect
import itertools
import unittest

from helper import (
    PACKAGE, check_error, check_steady, check_truth, frozen, greater_orders, lattice_relation, relation, small_lattices,
    small_orders,
)
from orderforms import (
    bits, build, chains, checker, congruences, dimension, embed, errors, forms, incidence, lattice, linear, log, lower,
    matching, order, papers, polynomials, replies, sheet,
)
from orderforms.console import Console
from orderforms.errors import Refused
from orderforms.incidence import Incidence, delta
from orderforms.lattice import Lattice
from orderforms.order import Order
from orderforms.replies import Reply

# The chapters of the modules; what belongs to no chapter is of the first one.
CHAPTERS = {
    "__init__": 1, "errors": 1, "bits": 1, "order": 1, "build": 2, "matching": 3, "chains": 3, "lower": 4, "lattice": 4,
    "congruences": 4, "incidence": 5, "polynomials": 5, "linear": 6, "dimension": 6, "forms": 7, "embed": 7,
    "papers": 8,
    "checker": 8, "sheet": 9, "replies": 9, "log": 9, "console": 9,
}
VEE = Order(3, ((0, 1), (0, 2)))
PENTAGON = Lattice(5, ((0, 1), (1, 2), (0, 3), (2, 4), (3, 4)))
SQUARE = Lattice(4, ((0, 1), (0, 2), (1, 3), (2, 3)))
F = Incidence(VEE, [[1, 2, 3], [0, -1, 0], [0, 0, 1]])
NAMES = {"a": VEE, "b": Order(2, ())}
ENTRY = ("width a", Reply("number", "2", ("width", (1, 2), ((0, 1), (2,)))))

# For each function of the package's interface some arguments, lists and dicts among them where they may be passed.
CALLS = {
    bits: {
        "is_integer": [(3,), (True,)], "is_set": [(5, 3), ([], 3)], "members": [(37,)], "count": [(37,)],
        "set_of": [([2, 0, 2],)],
        "lowest": [(12,)], "has": [(5, 2)], "is_part": [(4, 6)], "parts": [(13,)],
    },
    order: {"read_order": [("3: 0<1 0<2",)]},
    build: {
        "chain": [(4,)], "antichain": [(4,)], "parallel": [(VEE, VEE)], "ordinal": [(VEE, VEE)],
        "product": [(VEE, VEE)],
        "lexicographic": [(VEE, VEE)], "lexicographic_sum": [(VEE, [VEE, VEE, VEE])],
        "common_part": [([VEE, VEE.turned()],)],
        "by_inclusion": [([1, 3, 2],)], "divisor_order": [(12,)], "keeps": [(VEE, VEE)],
        "united": [(VEE, Order(3, ((1, 2),)))],
    },
    matching: {
        "largest_matching": [((3, 1, 1), 2)], "least_cover": [((3, 1, 1), 2, (1, 0, -1))],
        "is_matching": [((3, 1), [1, 0])],
        "is_cover": [((3, 1), [3, 0])],
    },
    chains: {
        "is_chain": [(VEE, [0, 1])], "is_antichain": [(VEE, [1, 2])], "width": [(VEE,)], "largest_antichain": [(VEE,)],
        "chain_parting": [(VEE,)], "rank_of": [(VEE, 1)], "length": [(VEE,)], "longest_chain": [(VEE,)],
        "antichain_parting": [(VEE,)], "is_chain_parting": [(VEE, [(0, 1), (2,)])],
        "is_antichain_parting": [(VEE, ([0], [1, 2]))],
    },
    lower: {
        "is_lower": [(VEE, 3)], "lower_hull": [(VEE, 2)], "top_points": [(VEE, 3)], "lower_sets": [(VEE,)],
        "antichains": [(VEE,)],
    },
    lattice: {
        "lattice_of": [(VEE,)], "lattice_product": [(SQUARE, PENTAGON)], "irreducible_order": [(PENTAGON,)],
        "images": [(SQUARE,)],
    },
    congruences: {
        "congruence": [(PENTAGON, [(1, 2), (0, 1)])], "is_congruence": [(PENTAGON, [0, 1, 1, 3, 4])],
        "quotient": [(PENTAGON, (0, 1, 1, 3, 4))], "congruences": [(PENTAGON,)],
    },
    incidence: {
        "delta": [(VEE,)], "zeta": [(VEE,)], "moebius": [(VEE,)], "chains_between": [(VEE, 0, 1, 2)],
    },
    polynomials: {
        "binomial": [(-5, 3)], "value_at": [((0, 1, 3, 2), 4)], "chain_counts": [(VEE,)], "chain_polynomial": [(VEE,)],
        "order_polynomial": [(VEE,)], "strict_polynomial": [(VEE,)],
    },
    linear: {
        "is_linear": [(VEE, [0, 1, 2])], "count_linear": [(VEE,)], "all_linear": [(VEE,)], "linear_at": [(VEE, 1)],
        "rank_of_linear": [(VEE, (0, 2, 1))], "count_before": [(VEE, 1, 2)], "common_part": [(((0, 1, 2), (0, 2, 1)),)],
    },
    dimension: {"is_realizer": [(VEE, [(0, 1, 2), (0, 2, 1)])], "dimension": [(VEE,)], "least_realizer": [(VEE,)]},
    forms: {
        "least_row": [(VEE,)], "form": [(VEE,)], "alike": [(VEE, VEE)], "least_renumberings": [(VEE,)],
        "twin_classes": [(VEE,)],
        "group_order": [(VEE,)], "find_map": [(VEE, VEE)], "is_map": [(VEE, VEE, [0, 1, 2])], "all_maps": [(VEE, VEE)],
        "self_maps": [(VEE,)],
    },
    embed: {
        "kept_maps": [(VEE, VEE)], "strict_maps": [(VEE, VEE)], "embeddings": [(VEE, VEE)], "count_maps": [(VEE, VEE)],
        "first_map": [(VEE, VEE)], "is_kept": [(VEE, VEE, [0, 1, 2])], "is_strict": [(VEE, VEE, [0])],
        "is_embedding": [(VEE, VEE, (0, 1, 2))],
    },
    papers: {
        "width_paper": [(VEE,)], "length_paper": [(VEE,)], "pair_paper": [(VEE, VEE.turned())],
        "lattice_paper": [(PENTAGON,)],
        "dimension_paper": [(VEE,)],
    },
    checker: {
        "takes_width": [(VEE, ["width", [1, 2], [[0, 1], [2]]])], "takes_length": [(VEE, ("length", (0, 1), [(0,), (1,
        2)]))],
        "takes_pair": [(VEE, VEE, ("map", [0, 1, 2])), (VEE, VEE, ("none", [[(0,)]]))],
        "takes_lattice": [(SQUARE, ("lower", 2, [0, 1, 2, 3]))], "takes_dimension": [(VEE, ("dimension", [(0, 1, 2),
        (0, 2, 1)]))],
    },
    sheet: {"read_line": [("let a = 3: 0<1 0<2",), ("moebius a 0 1",)]},
    replies: {
        "reply_to": [(NAMES, "chain a 3"), (NAMES, "alike a b")], "defined": [(NAMES, "turned a b"), (NAMES, "show a")],
        "is_right": [(NAMES, ENTRY), (NAMES, list(ENTRY))],
    },
    log: {
        "written": [((1, ("a", ())),)], "read_data": [("(1 (a ()))",)], "write_log": [([ENTRY, ENTRY],)],
        "read_log": [("> width a\n= number 2\n# ()\n",)], "first_wrong": [([("", Reply("done")), ENTRY],)],
    },
}

# Some objects with arguments for each of their methods.
METHODS = (
    (VEE, {
        "size": (), "below": (), "less": (0, 1), "at_most": (0, 1), "related": (1, 2), "pairs": (), "covers": (),
        "minimal": (),
        "maximal": (), "turned": (), "part": (5,), "renumbered": ((2, 0, 1),), "is_chain": (3,), "is_antichain": (6,),
        "__len__": (), "__str__": (), "__eq__": (VEE.turned(),),
    }),
    (PENTAGON, {
        "at_most": (0, 1), "joined": (1, 3), "met": (1, 3), "least": (), "greatest": (), "covers": (),
        "join_irreducibles": (),
        "meet_irreducibles": (), "complements": (1,), "distributive_failure": (), "modular_failure": (),
        "is_distributive": (),
        "is_modular": (), "turned": (), "__len__": (), "__eq__": (SQUARE,),
    }),
    (F, {
        "__add__": (F,), "__sub__": (F,), "__mul__": (F,), "__neg__": (), "__eq__": (F,), "value": (0, 1),
        "scaled": (3,),
        "power": (3,), "inverse": (), "sums": ((1, 2, 3),),
    }),
    (ENTRY[1], {"__eq__": (Reply("done"),)}),
)


def whole(result):
    """Return a result in a form that can be compared, also that of a generator."""
    return frozen(list(result) if inspect.isgenerator(result) else result)


class ChaptersTest(unittest.TestCase):
    def test_each_chapter_uses_only_those_before_it(self):
        self.assertEqual(sorted(CHAPTERS), sorted(path.stem for path in PACKAGE.glob("*.py")))
        for name, chapter in CHAPTERS.items():
            for node in ast.walk(ast.parse((PACKAGE / f"{name}.py").read_text())):
                if isinstance(node, ast.ImportFrom):
                    self.assertLessEqual(CHAPTERS[node.module.split(".")[1]], chapter, name)


class SteadyTest(unittest.TestCase):
    def test_functions_change_no_argument_and_have_equal_results(self):
        for module, calls in CALLS.items():
            for name, rows in calls.items():
                for args in rows:
                    before = frozen(args)
                    first = whole(getattr(module, name)(*args))
                    self.assertEqual(frozen(args), before, name)
                    self.assertEqual(whole(getattr(module, name)(*args)), first, name)
                    self.assertEqual(frozen(args), before, name)

    def test_each_function_is_among_these(self):
        for module, calls in CALLS.items():
            tree = ast.parse(inspect.getsource(module))
            defined = {node.name for node in tree.body if isinstance(node, ast.FunctionDef)}
            self.assertLessEqual(set(calls), defined)

    def test_methods_change_no_object(self):
        for thing, calls in METHODS:
            for name, args in calls.items():
                before = frozen((thing, args))
                first = whole(getattr(thing, name)(*args))
                self.assertEqual(frozen((thing, args)), before, name)
                self.assertEqual(whole(getattr(thing, name)(*args)), first, name)

    def test_objects_keep_no_list_that_they_are_made_of(self):
        pairs, rows = [(0, 1), (0, 2)], [[1, 2, 3], [0, -1, 0], [0, 0, 1]]
        made = (Order(3, pairs), Incidence(VEE, rows), Lattice(2, pairs[:1]))
        before = frozen(made)
        pairs.append((1, 2))
        rows[0][0] = 7
        self.assertEqual(frozen(made), before)

    def test_equal_consoles_have_equal_replies(self):
        lines = ("let a = 3: 0<1 0<2", "width a", "alike a a", "form a", "x", "group a")
        one, two = Console(), Console()
        self.assertEqual([frozen(one.enter(line)) for line in lines], [frozen(two.enter(line)) for line in lines])
        self.assertEqual(one.log(), two.log())


class FactsTest(unittest.TestCase):
    """Point 0.4."""

    def test_largest_antichains_and_smallest_partings(self):
        for one in small_orders(3):
            pairs = relation(one)
            sets = [part for size in range(one.n + 1) for part in itertools.combinations(range(one.n), size)]
            free = [part for part in sets if not any(pair in pairs for pair in itertools.permutations(part, 2))]
            rows = [part for part in sets if part and all(
                (x, y) in pairs or (y, x) in pairs for x, y in itertools.combinations(part, 2))]
            partings = [
                chosen for size in range(one.n + 1) for chosen in itertools.permutations(rows, size)
                if sorted(x for part in chosen for x in part) == list(range(one.n))
            ]
            most, fewest = max(len(part) for part in free), min(len(chosen) for chosen in partings)
            self.assertEqual(most, fewest)
            for part, chosen in itertools.product(sets, partings):
                wanted = part in free and len(part) == most and len(chosen) == fewest
                check_truth(self, wanted, checker.takes_width(one, ("width", part, chosen)), str(one), part, chosen)

    def test_distributive_lattices_are_those_of_lower_sets(self):
        seen = 0
        for one in small_lattices(6):
            points = lattice.irreducible_order(one)
            told = lattice.lattice_of(points)
            if one.is_distributive():
                seen += 1
                places = [lower.lower_sets(points).index(s) for s in lattice.images(one)]
                self.assertEqual(sorted(places), list(range(len(one))))
                self.assertEqual({(places[x], places[y]) for x, y in lattice_relation(one)}, lattice_relation(told))
            else:
                self.assertGreater(len(told), len(one))
        self.assertGreater(seen, 5)
        for one in small_orders(4)[::5]:
            self.assertTrue(forms.alike(lattice.irreducible_order(lattice.lattice_of(one)), one))
            check_truth(self, True, lattice.lattice_of(one).is_distributive())

    def test_inverses_of_functions_on_intervals(self):
        for one in small_orders(3):
            near = sorted(relation(one))
            for ends in itertools.product((-2, -1, 0, 1, 2), repeat=one.n):
                for k in (0, 3):
                    rows = [[0] * one.n for x in range(one.n)]
                    for x in range(one.n):
                        rows[x][x] = ends[x]
                    for place, (x, y) in enumerate(near):
                        rows[x][y] = k - 2 * place
                    f = Incidence(one, rows)
                    if all(end in (1, -1) for end in ends):
                        self.assertTrue(f * f.inverse() == delta(one) == f.inverse() * f)
                    else:
                        check_error(self, Refused, f.inverse, reason="inverse")

    def test_alike_orders_have_equal_forms(self):
        found = {}
        for one in small_orders(4):
            found.setdefault(str(forms.form(one)), []).append(one)
        for text, ones in found.items():
            first = ones[0]
            made = {str(first.renumbered(images)) for images in itertools.permutations(range(first.n))}
            self.assertEqual(made, {str(one) for one in ones})
        self.assertEqual(len(found), 1 + 1 + 2 + 5 + 16)


class WorkTest(unittest.TestCase):
    """The console with orders of all sizes, and its log."""

    def test_logs_of_many_orders(self):
        console = Console(most=1000)
        for one in small_orders(3)[::2] + greater_orders():
            for line in (
                f"let a = {one}", "turned b a", "form a", "width a", "length b", "dimension a", "alike a b",
                "linear a", "group b",
                "moebius a 0 1", "common c a b",
            ):
                console.enter(line)
        entries = log.read_log(console.log())
        self.assertEqual(frozen(entries), frozen(list(console)))
        self.assertEqual(check_steady(self, log.first_wrong, entries), -1)
        self.assertEqual({reply.kind for line, reply in entries}, {"order", "number", "alike", "error"})


class ExamplesTest(unittest.TestCase):
    """The examples of the interface."""

    def test_orders(self):
        self.assertEqual(str(Order(4, ((0, 1), (1, 3), (0, 3)))), "4: 0<1 1<3")
        check_error(self, Refused, Order, 2, ((0, 1), (1, 0)), reason="cycle")
        self.assertEqual(str(build.product(build.chain(2), build.chain(2))), "4: 0<1 0<2 1<3 2<3")
        self.assertEqual(str(build.ordinal(build.antichain(2), build.chain(1))), "3: 0<2 1<2")

    def test_lattices(self):
        self.assertEqual(lower.lower_sets(Order(3, ((0, 2), (1, 2)))), (0, 1, 2, 3, 7))
        self.assertEqual(PENTAGON.modular_failure(), (1, 3, 2))
        check_error(self, Refused, Lattice, 2, (), reason="lattice")

    def test_forms_and_maps(self):
        self.assertEqual(forms.least_row(Order(3, ((2, 0), (2, 1)))), (0, 1, 1))
        self.assertEqual(forms.group_order(Order(4, ((0, 1), (2, 3)))), 2)
        self.assertEqual(embed.count_maps(Order(2, ()), Order(2, ((0, 1),))), 4)

    def test_console(self):
        console = Console()
        self.assertEqual(console.enter("let a = 3: 0<1 0<2").text, "3: 0<1 0<2")
        self.assertEqual(console.enter("width a").text, "2")
        self.assertEqual(set(vars(errors)) & {"Fault", "Malformed", "Refused", "NoText"},
            {"Fault", "Malformed", "Refused", "NoText"})


if __name__ == "__main__":
    unittest.main()
