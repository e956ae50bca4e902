"""orderforms.embed: point 7.6."""

import inspect
import itertools
import math
import unittest

from helper import (
    VALUES, check_error, check_names, check_steady, check_truth, greater_orders, relation, small_orders,
)
from orderforms.build import antichain, chain, parallel
from orderforms.embed import (
    count_maps, embeddings, first_map, is_embedding, is_kept, is_strict, kept_maps, strict_maps,
)
from orderforms.errors import Malformed
from orderforms.order import Order

EMPTY = Order(0, ())
POINT = Order(1, ())
VEE = Order(3, ((0, 1), (0, 2)))
SMALL = small_orders(3)
GREATER = [
    (Order(4, ((3, 0), (3, 1), (2, 1))), VEE), (VEE, Order(4, ((3, 0), (3, 1), (2, 1)))),
    (Order(4, ((0, 1), (2, 3))), Order(5, ((4, 0), (0, 2), (3, 2)))),
    (Order(5, ((4, 0), (0, 2), (3, 2))), Order(4, ((0, 1), (2, 3), (0, 3)))),
    (Order(4, ((2, 0), (0, 1), (1, 3))), greater_orders()[1]), (antichain(3), greater_orders()[1]),
    (greater_orders()[0], greater_orders()[0]),
]
MAKERS = {"kept": kept_maps, "strict": strict_maps, "embedding": embeddings}
TESTS = {"kept": is_kept, "strict": is_strict, "embedding": is_embedding}


def wanted_maps(a, b, kind):
    """Return the ascending list of the tuples of images that fulfil the definition."""
    return [f for f in itertools.product(range(b.n), repeat=a.n) if fits(a, b, f, kind)]


def fits(a, b, f, kind):
    pairs, others = relation(a), relation(b)
    if kind == "strict":
        return all((f[x], f[y]) in others for x, y in pairs)
    near = pairs | {(x, x) for x in range(a.n)}
    others = others | {(y, y) for y in range(b.n)}
    if kind == "kept":
        return all((f[x], f[y]) in others for x, y in near)
    return all(((f[x], f[y]) in others) == ((x, y) in near) for x in range(a.n) for y in range(a.n))


class NamesTest(unittest.TestCase):
    def test_names(self):
        names = {name: "(a, b)" for name in ("kept_maps", "strict_maps", "embeddings")}
        names |= {name: "(a, b, f)" for name in ("is_kept", "is_strict", "is_embedding")}
        names |= {"count_maps": "(a, b, *, kind='kept')", "first_map": "(a, b, *, kind='embedding')"}
        check_names(self, "embed", names)


class MapsTest(unittest.TestCase):
    def check_maps(self, a, b, kind):
        told = check_steady(self, lambda one, two: list(MAKERS[kind](one, two)), a, b)
        self.assertTrue(all(type(f) is tuple for f in told))
        wanted = wanted_maps(a, b, kind)
        self.assertEqual(told, wanted, (str(a), str(b), kind))
        self.assertEqual(check_steady(self, lambda one, two: count_maps(one, two, kind=kind), a, b), len(wanted))
        first = check_steady(self, lambda one, two: first_map(one, two, kind=kind), a, b)
        self.assertEqual(first, wanted[0] if wanted else None)

    def test_orders_of_up_to_three_points(self):
        for a, b in itertools.product(SMALL, repeat=2):
            for kind in MAKERS:
                self.check_maps(a, b, kind)

    def test_greater_orders(self):
        for a, b in GREATER:
            for kind in MAKERS:
                self.check_maps(a, b, kind)

    def test_defaults(self):
        for a, b in itertools.product(SMALL, repeat=2):
            self.assertEqual(count_maps(a, b), len(wanted_maps(a, b, "kept")))
            self.assertEqual(first_map(a, b), ([*wanted_maps(a, b, "embedding"), None])[0])

    def test_generators(self):
        for maker in MAKERS.values():
            self.assertTrue(inspect.isgeneratorfunction(maker))
            told = maker(POINT, chain(3))
            self.assertTrue(inspect.isgenerator(told))
            self.assertEqual([next(told), next(told), next(told), next(told, None)], [(0,), (1,), (2,), None])

    def test_orders_without_points(self):
        for kind, maker in MAKERS.items():
            self.assertEqual(list(maker(EMPTY, EMPTY)), [()])
            self.assertEqual(list(maker(EMPTY, VEE)), [()])
            self.assertEqual(list(maker(VEE, EMPTY)), [])
            self.assertEqual([count_maps(EMPTY, VEE, kind=kind), count_maps(VEE, EMPTY, kind=kind)], [1, 0])
            self.assertEqual([first_map(EMPTY, VEE, kind=kind), first_map(VEE, EMPTY, kind=kind)], [(), None])

    def test_examples(self):
        self.assertEqual(count_maps(Order(2, ()), Order(2, ((0, 1),))), 4)
        self.assertEqual(list(kept_maps(chain(2), chain(2))), [(0, 0), (0, 1), (1, 1)])
        self.assertEqual(list(strict_maps(chain(2), VEE)), [(0, 1), (0, 2)])
        self.assertEqual(list(strict_maps(antichain(2), chain(2))), [(0, 0), (0, 1), (1, 0), (1, 1)])
        self.assertEqual(list(embeddings(antichain(2), VEE)), [(1, 2), (2, 1)])
        self.assertEqual((first_map(antichain(2), VEE), first_map(antichain(3), VEE)), ((1, 2), None))
        self.assertIsNone(first_map(chain(3), VEE, kind="strict"))

    def test_ten_points(self):
        free, row = antichain(10), chain(10)
        self.assertEqual([count_maps(free, free, kind=kind) for kind in MAKERS], [10**10, 10**10, math.factorial(10)])
        self.assertEqual([count_maps(row, row, kind=kind) for kind in MAKERS], [math.comb(19, 10), 1, 1])
        self.assertEqual([count_maps(row, free, kind=kind) for kind in MAKERS], [10, 0, 0])
        self.assertEqual([first_map(row, free, kind=kind) for kind in MAKERS], [(0,) * 10, None, None])
        self.assertEqual(first_map(free, free), tuple(range(10)))
        self.assertIsNone(first_map(antichain(9), parallel(antichain(7), chain(3))))
        self.assertEqual(next(kept_maps(free, free)), (0,) * 10)
        self.assertEqual(list(embeddings(row, Order(10, [(x + 1, x) for x in range(9)]))), [tuple(range(9, -1, -1))])
        crown = greater_orders()[6]
        self.assertEqual(count_maps(crown, crown, kind="embedding"), 120)

    def test_other_kinds(self):
        wrong = [value for value in VALUES if not isinstance(value, str)] + [
            "", "a", "Kept", "kept ", "embeddings", "maps", ["kept"], ("kept",), "keptstrict", {"kept": 1},
        ]
        for kind in wrong:
            for a, b in ((VEE, VEE), (EMPTY, EMPTY), (VEE, EMPTY)):
                check_error(self, Malformed, lambda: count_maps(a, b, kind=kind))
                check_error(self, Malformed, lambda: first_map(a, b, kind=kind))


class IsMapTest(unittest.TestCase):
    def test_each_tuple_of_points(self):
        for a, b in itertools.product(SMALL[:6] + SMALL[6::3], SMALL[:5] + SMALL[5::4]):
            rows = [row for size in range(5) for row in itertools.product(range(b.n), repeat=size)]
            for kind, call in TESTS.items():
                maps = wanted_maps(a, b, kind)
                for f in rows if len(rows) < 50 else rows[:40] + rows[-81::3]:
                    check_truth(self, f in maps, call(a, b, f), str(a), str(b), kind, f)
                for f in maps:
                    check_truth(self, True, check_steady(self, call, a, b, f))
                    check_truth(self, False, call(a, b, list(f)))
                    check_truth(self, False, call(a, b, f + (0,)))
                    check_truth(self, len(f) == 0, call(a, b, f[:-1]))

    def test_greater_orders(self):
        for a, b in GREATER[:4]:
            for kind, call in TESTS.items():
                maps = set(wanted_maps(a, b, kind))
                for f in itertools.product(range(b.n), repeat=a.n):
                    check_truth(self, f in maps, call(a, b, f), str(a), str(b), kind, f)

    def test_told_values(self):
        wrong = (
            [0, 1, 2], (0, 1), (0, 1, 2, 2), (0, 1, 3), (0, 1, -1), (-1, 1, 2), (0, True, 2), (False, 1, 2), (0, 1, "2"),
            (0, 1, None), (0, 1, (2,)), (0, 1, 2**70), (), None, True, 0, "012", VEE, (VEE,) * 3, ((0, 1, 2),), {},
            {0: 0, 1: 1, 2: 2}, ("0", "1", "2"), (1, 0, 2),
        )
        for call in TESTS.values():
            check_truth(self, True, call(VEE, VEE, (0, 2, 1)))
            for f in wrong:
                check_truth(self, False, call(VEE, VEE, f), call, f)
        check_truth(self, True, is_kept(VEE, VEE, (1, 1, 1)))
        check_truth(self, False, is_strict(VEE, VEE, (1, 1, 1)))
        check_truth(self, True, is_strict(VEE, VEE, (0, 1, 1)))
        check_truth(self, False, is_embedding(VEE, VEE, (0, 1, 1)))

    def test_every_value(self):
        for value in VALUES:
            for call in TESTS.values():
                check_truth(self, type(value) is tuple and value == (), call(EMPTY, VEE, value), value)
                check_truth(self, type(value) is tuple and value == (), call(EMPTY, EMPTY, value), value)
                wanted = type(value) is tuple and value in ((0,), (1,)) and type(value[0]) is int
                check_truth(self, wanted, call(POINT, antichain(2), value), value)
                check_truth(self, False, call(POINT, EMPTY, value), value)


if __name__ == "__main__":
    unittest.main()
