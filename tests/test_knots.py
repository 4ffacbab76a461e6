"""Points [9], [10] and [11]: knots and their line, rings, triangles."""

import itertools
import random
import unittest

from knotsorts.errors import UnknownItem
from knotsorts.knots import knots, ring, triangles
from knotsorts.rules import rule_of_numbers, rule_of_pairs
from helpers import ODD_THINGS, RING, before, caught, knot_of, long_ring, may_precede, some_rules, three_groups


class Knots(unittest.TestCase):
    def test_the_example(self):
        self.assertEqual(knots([[0, -1, 1, -1], [1, 0, -1, -1], [-1, 1, 0, -1], [1, 1, 1, 0]]), [[0, 1, 2], [3]])

    def test_no_item_and_one(self):
        self.assertEqual(knots([]), [])
        self.assertEqual(knots([[0]]), [[0]])

    def test_ties(self):
        self.assertEqual(knots([[0, 0], [0, 0]]), [[0, 1]])
        # Item 2 ties with both others, of which 1 is before 0.
        self.assertEqual(knots(rule_of_pairs(3, [(1, 0)])), [[0, 1, 2]])
        self.assertEqual(knots([[0] * 12 for _ in range(12)]), [list(range(12))])

    def test_several_knots_in_their_line(self):
        self.assertEqual(knots(rule_of_numbers([5, 1, 9, 1, 5, 5])), [[1, 3], [0, 4, 5], [2]])
        self.assertEqual(knots(rule_of_numbers(list(range(12, 0, -1)))), [[item] for item in range(11, -1, -1)])

    def test_knots_of_numbers_with_a_tolerance(self):
        self.assertEqual(knots(rule_of_numbers([10, 0, 2, 4, 7, 12], tolerance=2)), [[1, 2, 3], [4], [0, 5]])

    def test_knots_of_many_numbers_by_sorting_them(self):
        for seed in range(60):
            chance = random.Random(seed)
            numbers = [chance.randrange(-20, 21) for _ in range(chance.randrange(13))]
            tolerance = chance.randrange(8)
            expected = []
            last = None
            for number, item in sorted(zip(numbers, range(12))):
                if last is None or number - last > tolerance:
                    expected.append([])
                expected[-1].append(item)
                last = number
            rule = rule_of_numbers(numbers, tolerance=tolerance)
            self.assertEqual(knots(rule), [sorted(knot) for knot in expected], (numbers, tolerance))

    def test_one_long_ring(self):
        self.assertEqual(knots(long_ring()), [list(range(12))])

    def test_against_all_chains(self):
        for rule in some_rules():
            line = knots(rule)
            self.assertEqual(sorted(item for knot in line for item in knot), list(range(len(rule))), rule)
            for knot in line:
                self.assertEqual(knot, knot_of(rule, knot[0]), rule)
            for earlier, later in itertools.combinations(line, 2):
                self.assertTrue(all(before(rule, x, y) for x in earlier for y in later), rule)


class Rings(unittest.TestCase):
    def check_ring(self, rule, item):
        found = ring(rule, item)
        knot = knot_of(rule, item)
        if len(knot) == 1:
            self.assertIsNone(found, (rule, item))
            return
        self.assertIsInstance(found, list)
        self.assertEqual(found[0], item, rule)
        self.assertEqual(sorted(found), knot, (rule, item))
        for one, other in zip(found, found[1:] + found[:1]):
            self.assertTrue(may_precede(rule, one, other), (rule, item, found))

    def test_three_items(self):
        self.assertEqual([ring(RING, item) for item in range(3)], [[0, 1, 2], [1, 2, 0], [2, 0, 1]])

    def test_two_items_that_tie(self):
        rule = [[0, 0], [0, 0]]
        self.assertEqual((ring(rule, 0), ring(rule, 1)), ([0, 1], [1, 0]))

    def test_alone(self):
        self.assertIsNone(ring([[0]], 0))
        self.assertEqual([ring([[0, 1], [-1, 0]], item) for item in range(2)], [None, None])
        rule = [[0, -1, 1, -1], [1, 0, -1, -1], [-1, 1, 0, -1], [1, 1, 1, 0]]
        self.assertIsNone(ring(rule, 3))

    def test_the_only_ring_of_twelve_items(self):
        for item in range(12):
            self.check_ring(long_ring(), item)

    def test_each_item_of_many_rules(self):
        for rule in some_rules():
            for item in range(len(rule)):
                self.check_ring(rule, item)

    def test_each_item_of_rings_of_knots(self):
        for seed in range(6):
            rule = three_groups(seed)
            for item in range(12):
                self.check_ring(rule, item)

    def test_unknown_items(self):
        for thing in ODD_THINGS + [-1, 3, 10 ** 5000, [], [0]]:
            self.assertIs(caught(UnknownItem, ring, RING, thing).item, thing)
        self.assertEqual(caught(UnknownItem, ring, [], 0).item, 0)
        # A whole number besides True would be an item here.
        self.assertIs(caught(UnknownItem, ring, [[0, 0], [0, 0]], True).item, True)


class Triangles(unittest.TestCase):
    def test_both_ways_round(self):
        self.assertEqual(triangles(RING), [(0, 1, 2)])
        self.assertEqual(triangles([[-answer for answer in row] for row in RING]), [(0, 2, 1)])

    def test_none(self):
        for rule in ([], [[0]], [[0, 0], [0, 0]], [[0] * 3 for _ in range(3)], rule_of_numbers([2, 1, 3, 0])):
            self.assertEqual(triangles(rule), [])

    def test_a_tie_makes_no_triangle(self):
        self.assertEqual(triangles(rule_of_pairs(3, [(0, 1), (1, 2)])), [])
        self.assertEqual(triangles(rule_of_pairs(3, [(0, 1), (2, 0)])), [])
        self.assertEqual(triangles(rule_of_pairs(3, [(1, 2), (2, 0)])), [])

    def test_against_a_look_at_all_three_items(self):
        for rule in some_rules():
            expected = [
                (x, y, z) for x, y, z in itertools.product(range(len(rule)), repeat=3)
                if x < y and x < z and before(rule, x, y) and before(rule, y, z) and before(rule, z, x)
            ]
            found = triangles(rule)
            self.assertEqual(found, expected, rule)
            self.assertTrue(all(isinstance(triangle, tuple) for triangle in found))


if __name__ == "__main__":
    unittest.main()
