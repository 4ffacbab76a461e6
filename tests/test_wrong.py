"""Point [22]: wrong pairs, and the paths with the fewest and with the most of them."""

import unittest

from knotsorts.errors import InvalidRow
from knotsorts.rules import rule_of_numbers
from knotsorts.wrong import fewest_wrong, most_wrong, wrong_pairs
from helpers import (
    BAD_ROWS, RING, all_paths, all_rows, caught, is_path, knot_of, long_ring, may_precede, one_after_the_other,
    random_rule, some_rows, some_rules, three_groups, wrong_of,
)

TIES = [[0] * 12 for _ in range(12)]


class WrongPairs(unittest.TestCase):
    def test_some(self):
        self.assertEqual(wrong_pairs(RING, [0, 1, 2]), [(0, 2)])
        self.assertEqual(wrong_pairs(RING, [2, 1, 0]), [(1, 0), (2, 1)])
        self.assertEqual(wrong_pairs([[0, -1], [1, 0]], [0, 1]), [])
        self.assertEqual(wrong_pairs([[0, -1], [1, 0]], [1, 0]), [(1, 0)])
        self.assertEqual(wrong_pairs([[0, 0], [0, 0]], [1, 0]), [])
        self.assertEqual(wrong_pairs([], []), [])
        self.assertEqual(wrong_pairs([[0]], [0]), [])

    def test_all_of_twelve_items(self):
        rule = rule_of_numbers(list(range(12)))
        expected = sorted((x, y) for x in range(12) for y in range(x))
        self.assertEqual(wrong_pairs(rule, list(range(11, -1, -1))), expected)

    def test_many(self):
        for seed, rule in enumerate(some_rules()):
            for row in some_rows(len(rule), seed):
                pairs = wrong_pairs(rule, row)
                self.assertEqual(pairs, wrong_of(rule, row), (rule, row))
                self.assertTrue(all(isinstance(pair, tuple) for pair in pairs))

    def test_a_path_from_one_to_the_other_is_a_ring(self):
        for rule in some_rules(5):
            for path in all_paths(rule):
                for x, y in wrong_pairs(rule, path):
                    self.assertIn(y, knot_of(rule, x))
                    stretch = path[path.index(x):path.index(y) + 1]
                    self.assertGreater(len(stretch), 2)
                    for one, other in zip(stretch, stretch[1:] + stretch[:1]):
                        self.assertTrue(may_precede(rule, one, other))

    def test_invalid_rows(self):
        for row, place in BAD_ROWS:
            error = caught(InvalidRow, wrong_pairs, RING, row)
            self.assertEqual(error.place, place, row)
            self.assertIs(error.place.__class__, place.__class__)
        self.assertIsNone(caught(InvalidRow, wrong_pairs, [], [0]).place)


class FewestAndMost(unittest.TestCase):
    def check(self, rule, told):
        """What is told is a number and a path with so many wrong pairs. Returns the number."""
        self.assertIsInstance(told, tuple)
        number, path = told
        self.assertIs(number.__class__, int)
        self.assertIsInstance(path, list)
        self.assertEqual(sorted(path), list(range(len(rule))), rule)
        self.assertTrue(is_path(rule, path), (rule, path))
        self.assertEqual(len(wrong_of(rule, path)), number, (rule, path))
        return number

    def test_few_items(self):
        for call in (fewest_wrong, most_wrong):
            self.assertEqual(call([]), (0, []))
            self.assertEqual(call([[0]]), (0, [0]))
            self.assertEqual(call([[0, 1], [-1, 0]]), (0, [1, 0]))
            self.assertEqual(self.check([[0, 0], [0, 0]], call([[0, 0], [0, 0]])), 0)
            self.assertEqual(self.check(RING, call(RING)), 1)

    def test_up_to_six_items_against_all_rows(self):
        for rule in some_rules(6, 4):
            numbers = {tuple(row): len(wrong_of(rule, row)) for row in all_rows(len(rule))}
            self.assertEqual(self.check(rule, fewest_wrong(rule)), min(numbers.values()), rule)
            paths = [tuple(path) for path in all_paths(rule)]
            self.assertEqual(self.check(rule, most_wrong(rule)), max(numbers[path] for path in paths), rule)

    def test_no_row_has_fewer_and_no_path_has_more(self):
        for size in range(7, 13):
            rule = random_rule(size, size)
            fewest, most = self.check(rule, fewest_wrong(rule)), self.check(rule, most_wrong(rule))
            for row in some_rows(size, size, 200):
                self.assertLessEqual(fewest, len(wrong_of(rule, row)))
                if is_path(rule, row):
                    self.assertGreaterEqual(most, len(wrong_of(rule, row)))

    def test_twelve_items_in_one_knot(self):
        # From 0 to 11, only neighbours stand right; from 11 to 0, only these stand wrong, six of which can be mended.
        self.assertEqual(self.check(long_ring(), most_wrong(long_ring())), 55)
        self.assertEqual(self.check(long_ring(), fewest_wrong(long_ring())), 5)
        self.assertEqual(self.check(TIES, fewest_wrong(TIES)), 0)
        self.assertEqual(self.check(TIES, most_wrong(TIES)), 0)
        for seed in range(2):
            rule = three_groups(seed)
            self.assertLessEqual(self.check(rule, fewest_wrong(rule)), self.check(rule, most_wrong(rule)))

    def test_the_sums_over_the_knots(self):
        rule = one_after_the_other([RING, RING, RING, RING])
        self.assertEqual(self.check(rule, fewest_wrong(rule)), 4)
        self.assertEqual(self.check(rule, most_wrong(rule)), 4)
        five = random_rule(5, 3, (-1, 1))
        six = random_rule(6, 4)
        rule = one_after_the_other([six, [[0]], five])
        for call in (fewest_wrong, most_wrong):
            self.assertEqual(self.check(rule, call(rule)), call(six)[0] + call(five)[0])

    def test_twelve_items_in_order(self):
        rule = rule_of_numbers(list(range(12)))
        self.assertEqual(fewest_wrong(rule), (0, list(range(12))))
        self.assertEqual(most_wrong(rule), (0, list(range(12))))


if __name__ == "__main__":
    unittest.main()
