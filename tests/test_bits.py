"""orderforms.bits: point 1.1."""

import inspect
import itertools
import unittest

from helper import NO_INTEGERS, bits_of, check_error, check_names, check_steady, check_truth, points_of
from orderforms.bits import count, has, is_integer, is_part, is_set, lowest, members, parts, set_of
from orderforms.errors import Refused

GREAT = (2**10 - 1, 2**63, 2**64 + 1, 2**200 + 2**7, 2**64 - 1)


class NamesTest(unittest.TestCase):
    def test_names(self):
        check_names(self, "bits", {
            "is_integer": "(value)",
            "is_set": "(value, n)",
            "members": "(bits)",
            "count": "(bits)",
            "set_of": "(points)",
            "lowest": "(bits)",
            "has": "(bits, x)",
            "is_part": "(one, two)",
            "parts": "(bits)",
        })


class KindsTest(unittest.TestCase):
    def test_is_integer(self):
        for value in (0, 1, -1, 2, 10, 2**70, -(2**70)):
            check_truth(self, True, is_integer(value), value)
        for value in NO_INTEGERS:
            check_truth(self, False, is_integer(value), value)

    def test_is_set_at_the_bounds(self):
        for n in range(12):
            for value in (0, 2**n - 1, 2**n // 2):
                check_truth(self, True, is_set(value, n), value, n)
            for value in (-1, 2**n, 2**n + 1, -(2**n), 2**200):
                check_truth(self, False, is_set(value, n), value, n)

    def test_is_set_of_each_small_number(self):
        for n in range(5):
            for value in range(-20, 40):
                check_truth(self, 0 <= value <= 2**n - 1, is_set(value, n), value, n)

    def test_is_set_of_other_values(self):
        for value in NO_INTEGERS:
            for n in (0, 1, 2, 10):
                check_truth(self, False, is_set(value, n), value, n)


class MembersTest(unittest.TestCase):
    def test_told_examples(self):
        self.assertEqual(members(0), ())
        self.assertEqual(members(1), (0,))
        self.assertEqual(members(8), (3,))
        self.assertEqual(members(11), (0, 1, 3))
        self.assertEqual(members(2**200 + 2**7), (7, 200))

    def test_members_and_count(self):
        for bits in [*range(300), *GREAT]:
            told = check_steady(self, members, bits)
            self.assertEqual(told, points_of(bits))
            self.assertIsInstance(told, tuple)
            self.assertEqual(check_steady(self, count, bits), len(points_of(bits)))

    def test_set_of(self):
        self.assertEqual(set_of(()), 0)
        self.assertEqual(set_of([]), 0)
        self.assertEqual(set_of((0,)), 1)
        self.assertEqual(set_of([3]), 8)
        self.assertEqual(set_of((3, 0, 3, 1, 0)), 11)
        self.assertEqual(set_of([5, 5, 5]), 32)
        self.assertEqual(set_of((200, 7)), 2**200 + 2**7)

    def test_set_of_each_row(self):
        for row in itertools.product(range(4), repeat=4):
            self.assertEqual(check_steady(self, set_of, list(row)), bits_of(row))
            self.assertEqual(check_steady(self, set_of, row), bits_of(row))

    def test_set_of_the_members_is_the_set(self):
        for bits in [*range(300), *GREAT]:
            self.assertEqual(set_of(members(bits)), bits)

    def test_lowest(self):
        self.assertEqual(lowest(1), 0)
        self.assertEqual(lowest(8), 3)
        self.assertEqual(lowest(12), 2)
        for bits in [*range(1, 300), *GREAT]:
            self.assertEqual(check_steady(self, lowest, bits), points_of(bits)[0])

    def test_lowest_of_the_empty_set(self):
        check_error(self, Refused, lowest, 0, reason="empty")

    def test_has(self):
        for bits in [*range(70), *GREAT]:
            for x in range(70):
                check_truth(self, x in points_of(bits), has(bits, x), bits, x)
        check_truth(self, False, has(0, 0))
        check_truth(self, False, has(7, 1000))

    def test_is_part(self):
        for one in range(40):
            for two in range(40):
                wanted = set(points_of(one)) <= set(points_of(two))
                check_truth(self, wanted, is_part(one, two), one, two)
        check_truth(self, True, is_part(0, 0))
        check_truth(self, True, is_part(2**200, 2**200 + 1))
        check_truth(self, False, is_part(2**200 + 1, 2**200))


class PartsTest(unittest.TestCase):
    def test_is_a_generator(self):
        self.assertTrue(inspect.isgeneratorfunction(parts))
        self.assertTrue(inspect.isgenerator(parts(5)))

    def test_told_examples(self):
        self.assertEqual(list(parts(0)), [0])
        self.assertEqual(list(parts(1)), [0, 1])
        self.assertEqual(list(parts(8)), [0, 8])
        self.assertEqual(list(parts(11)), [0, 1, 2, 3, 8, 9, 10, 11])

    def test_all_parts_in_ascending_order(self):
        for bits in range(130):
            wanted = [part for part in range(bits + 1) if part & bits == part]
            self.assertEqual(list(parts(bits)), wanted)

    def test_parts_of_ten_points_and_of_far_points(self):
        self.assertEqual(list(parts(2**10 - 1)), list(range(2**10)))
        self.assertEqual(list(parts(2**100 + 2**64)), [0, 2**64, 2**100, 2**100 + 2**64])


if __name__ == "__main__":
    unittest.main()
