"""orderforms.matching: point 3.2, and of 3.5 how the matching is found."""

import itertools
import unittest

from helper import VALUES, check_names, check_steady, check_truth, points_of
from orderforms.matching import is_cover, is_matching, largest_matching, least_cover

# Graphs as pairs (joined, right).
GRAPHS = [
    ((), 0), ((), 3), ((0,), 0), ((0, 0, 0), 0), ((0, 0), 4), ((7, 7, 7), 3), ((15, 15), 4), ((1, 1, 1, 1), 1),
    ((3, 1), 2), ((1, 3, 6, 12), 4), ((6, 5, 3, 7), 3), ((2, 2, 5, 8, 12), 4), ((31, 1, 1, 2, 3), 5),
    ((9, 18, 36, 9, 18, 36), 6), ((3, 6, 12, 24, 16, 1), 5), ((48, 12, 3, 12, 3, 48, 63), 6),
]


def all_graphs():
    """Return all graphs of up to 3 left and 3 right points, and those of GRAPHS."""
    small = [
        (joined, right) for left in range(4) for right in range(4)
        for joined in itertools.product(range(2**right), repeat=left)
    ]
    return small + GRAPHS


def matching_size(joined, used=0):
    """Return the number of pairs of a largest matching, by trying all."""
    if not joined:
        return 0
    sizes = [matching_size(joined[1:], used)]
    for y in points_of(joined[0]):
        if not used >> y & 1:
            sizes.append(1 + matching_size(joined[1:], used | 2**y))
    return max(sizes)


def told_matching(joined):
    """Return the matching of point 3.5, by recursion."""
    holders = {}

    def find(x, seen):
        for y in points_of(joined[x]):
            if y not in seen:
                seen.add(y)
                if y not in holders or find(holders[y], seen):
                    holders[y] = x
                    return True
        return False

    for x in range(len(joined)):
        find(x, set())
    partners = {x: y for y, x in holders.items()}
    return tuple(partners.get(x, -1) for x in range(len(joined)))


def joins(joined):
    return {(x, y) for x in range(len(joined)) for y in points_of(joined[x])}


class MatchingTest(unittest.TestCase):
    def test_names(self):
        check_names(self, "matching", {
            "largest_matching": "(joined, right)",
            "least_cover": "(joined, right, matching)",
            "is_matching": "(joined, matching)",
            "is_cover": "(joined, cover)",
        })

    def check_graph(self, joined, right):
        matching = check_steady(self, largest_matching, joined, right)
        self.assertIsInstance(matching, tuple)
        self.assertEqual(len(matching), len(joined))
        pairs = {(x, y) for x, y in enumerate(matching) if y != -1}
        self.assertLessEqual(pairs, joins(joined))
        self.assertEqual(len({y for x, y in pairs}), len(pairs))
        check_truth(self, True, is_matching(joined, matching), joined, matching)

        cover = check_steady(self, least_cover, joined, right, matching)
        self.assertIsInstance(cover, tuple)
        left, right_part = cover
        self.assertLess(left, 2**len(joined))
        self.assertLess(right_part, 2**right)
        for x, y in joins(joined):
            self.assertTrue(left >> x & 1 or right_part >> y & 1)
        self.assertEqual(len(points_of(left)) + len(points_of(right_part)), len(pairs))
        for x, y in pairs:
            self.assertEqual((left >> x & 1) + (right_part >> y & 1), 1)
        check_truth(self, True, is_cover(joined, cover), joined, cover)

    def test_graphs(self):
        for joined, right in all_graphs():
            self.check_graph(joined, right)

    def test_matching_is_a_largest_one(self):
        for joined, right in all_graphs():
            told = largest_matching(joined, right)
            self.assertEqual(len(joined) - told.count(-1), matching_size(joined))
            self.assertEqual(told, told_matching(joined))

    def test_cover_is_the_one_of_alternating_ways(self):
        for joined, right in all_graphs():
            matching = largest_matching(joined, right)
            lefts = {x for x, y in enumerate(matching) if y == -1}
            rights = set()
            for _ in joined:
                rights |= {y for x, y in joins(joined) if x in lefts}
                lefts |= {x for x, y in enumerate(matching) if y in rights}
            wanted = (sum(2**x for x in range(len(joined)) if x not in lefts), sum(2**y for y in rights))
            self.assertEqual(least_cover(joined, right, matching), wanted)

    def test_told_examples(self):
        self.assertEqual(largest_matching((), 0), ())
        self.assertEqual(least_cover((), 0, ()), (0, 0))
        self.assertEqual(largest_matching((3, 1), 2), (1, 0))
        self.assertEqual(largest_matching((0, 0), 2), (-1, -1))
        self.assertEqual(least_cover((0, 0), 2, (-1, -1)), (0, 0))
        self.assertEqual(largest_matching((7, 7), 3), (1, 0))
        self.assertEqual(least_cover((7, 7), 3, (1, 0)), (3, 0))
        self.assertEqual(largest_matching((1, 1), 1), (0, -1))
        self.assertEqual(least_cover((1, 1), 1, (0, -1)), (0, 1))

    def test_long_augmenting_way(self):
        size = 1500
        joined = tuple([2**x + 2**(x + 1) for x in range(size)] + [1])
        matching = largest_matching(joined, size + 1)
        self.assertEqual(matching, tuple(range(1, size + 1)) + (0,))
        left, right = least_cover(joined, size + 1, matching)
        self.assertEqual(left.bit_count() + right.bit_count(), size + 1)
        blocked = joined + (2,)
        matching = largest_matching(blocked, size + 1)
        self.assertEqual(matching[-1], -1)
        check_truth(self, True, is_cover(blocked, least_cover(blocked, size + 1, matching)))


class IsMatchingTest(unittest.TestCase):
    def test_each_row_of_small_graphs(self):
        for joined, right in all_graphs():
            if len(joined) > 3 or right > 3:
                continue
            for row in itertools.product(range(-2, 4), repeat=len(joined)):
                matched = [y for y in row if y != -1]
                wanted = len(set(matched)) == len(matched)
                wanted = wanted and all(y == -1 or (x, y) in joins(joined) for x, y in enumerate(row))
                check_truth(self, wanted, is_matching(joined, row), joined, row)
                check_truth(self, False, is_matching(joined, list(row)), joined, row)

    def test_told_values(self):
        joined = (3, 6, 4)
        for matching in ((0, 1, 2), (1, 2, -1), (-1, -1, -1), (-1, 2, -1), (0, -1, 2)):
            check_truth(self, True, check_steady(self, is_matching, joined, matching), matching)
        wrong = (
            (2, 1, -1), (0, 0, -1), (1, 1, 2), (0, 2, 2), [0, 1, 2], (0, 1), (0, 1, 2, -1), (), (True, 2, -1),
            (False, 1, 2), (0, True, 2), (0, 1, None), (0, 1, "2"), (0, 1, (2,)), (0, 1, [2]), (-2, 1, 2), (0, -3, 2),
            (0, 3, 2), (0, 1, 2**70), (0, 1, 10**40), None, "012", 5, {0: 1},
        )
        for matching in wrong:
            check_truth(self, False, is_matching(joined, matching), matching)

    def test_every_value(self):
        for value in VALUES:
            check_truth(self, value == () and isinstance(value, tuple), is_matching((), value), value)
            check_truth(self, type(value) is tuple and value in ((0, 1), (1, 0)) and type(value[0]) is int,
                        is_matching((3, 3), value), value)


class IsCoverTest(unittest.TestCase):
    def test_each_pair_of_sets_of_small_graphs(self):
        for joined, right in all_graphs():
            if len(joined) > 3 or right > 3:
                continue
            for left, other in itertools.product(range(2**len(joined)), range(2**right)):
                wanted = all(left >> x & 1 or other >> y & 1 for x, y in joins(joined))
                check_truth(self, wanted, is_cover(joined, (left, other)), joined, left, other)

    def test_told_values(self):
        joined = (3, 4)
        for cover in ((3, 0), (0, 7), (1, 4), (2, 3), (3, 7), (1, 2**70 + 4), (0, 2**70 - 1), (3, 8)):
            check_truth(self, True, check_steady(self, is_cover, joined, cover), cover)
        wrong = (
            (0, 0), (1, 3), (2, 1), (2, 4), (0, 3), (0, 2**70), [3, 0], (3,), (3, 0, 0), (), (4, 7), (7, 7), (-1, 7),
            (3, -1), (0, -1), (True, 4), (1, True), (3, False), (False, 7), (3, None), (None, 7), ("3", 0), (3, "0"),
            ((0, 1), (0,)), ((3, 0),), (2**70, 7), None, 3, "30",
        )
        for cover in wrong:
            check_truth(self, False, is_cover(joined, cover), cover)

    def test_no_left_points(self):
        for cover in ((0, 0), (0, 1), (0, 2**70)):
            check_truth(self, True, is_cover((), cover), cover)
        for cover in ((1, 0), (0, -1), [0, 0], (0,), (False, 0), (0, False)):
            check_truth(self, False, is_cover((), cover), cover)

    def test_every_value(self):
        for value in VALUES:
            right_form = type(value) is tuple and len(value) == 2 and [type(item) for item in value] == [int, int]
            check_truth(self, right_form, is_cover((0,), value), value)


if __name__ == "__main__":
    unittest.main()
