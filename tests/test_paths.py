"""Points [8], [9] and [10]: paths, how many there are and which."""

import inspect
import itertools
import math
import random
import unittest

from knotsorts.errors import InvalidRow, InvalidRule, TooMany, UnknownItem
from knotsorts.knots import knots
from knotsorts.paths import count_paths, each_path, path_with, wrong_place
from knotsorts.rules import rule_of_numbers
from helpers import (
    BAD_ROWS, ODD_THINGS, RING, all_paths, all_rows, before, caught, is_path, long_ring, may_precede,
    one_after_the_other, part_of, random_rule, reached, rule_from, some_rows, some_rules, three_groups,
)

TIES = [[0] * 12 for _ in range(12)]
# Knots of 2, 3, 5 and 2 items, in one line.
SEVERAL = one_after_the_other([[[0, 0], [0, 0]], RING, [[0] * 5 for _ in range(5)], [[0, 0], [0, 0]]])
FORTY = rule_from(5, [-1, 0, 0, -1, 0, 0, 0, 1, -1, 1])
TWENTY_FIVE = rule_from(5, [-1, 0, -1, 1, 0, 0, -1, -1, -1, -1])
THOUSAND_AND_ONE = rule_from(7, [-1, 1, 0, -1, -1, 0, -1, 1, -1, 0, 0, 0, 1, 0, 0, 0, -1, 1, 0, 0, 0])


def count_apart(rule):
    """The number of paths, counted item by item from the end, apart from knots and parts."""
    kept = {}

    def count(last, left):
        if not left:
            return 1
        if (last, left) not in kept:
            nexts = [x for x in left if last is None or may_precede(rule, last, x)]
            kept[last, left] = sum(count(x, left - {x}) for x in nexts)
        return kept[last, left]

    return count(None, frozenset(range(len(rule))))


class WrongPlace(unittest.TestCase):
    def test_some(self):
        self.assertIsNone(wrong_place(RING, [1, 2, 0]))
        self.assertEqual(wrong_place(RING, [0, 2, 1]), 0)
        self.assertEqual(wrong_place([[0, -1], [1, 0]], [1, 0]), 0)
        self.assertEqual(wrong_place(rule_of_numbers(list(range(12))), list(range(10)) + [11, 10]), 10)

    def test_no_item_and_one(self):
        self.assertIsNone(wrong_place([], []))
        self.assertIsNone(wrong_place([[0]], [0]))

    def test_the_first_of_several(self):
        rule = rule_of_numbers(list(range(6)))
        self.assertEqual(wrong_place(rule, [5, 4, 3, 2, 1, 0]), 0)
        self.assertEqual(wrong_place(rule, [0, 2, 1, 5, 4, 3]), 1)

    def test_ties_are_no_fault(self):
        for row in some_rows(12, 1):
            self.assertIsNone(wrong_place(TIES, row))

    def test_only_neighbours_count(self):
        # Item 2 is before item 0, but item 1 stands between them.
        self.assertIsNone(wrong_place(RING, [0, 1, 2]))

    def test_many(self):
        for seed, rule in enumerate(some_rules()):
            for row in some_rows(len(rule), seed):
                wrong = [k for k in range(len(rule) - 1) if before(rule, row[k + 1], row[k])]
                self.assertEqual(wrong_place(rule, row), wrong[0] if wrong else None, (rule, row))

    def test_invalid_rows(self):
        for row, place in BAD_ROWS:
            error = caught(InvalidRow, wrong_place, RING, row)
            self.assertEqual(error.place, place, row)
            self.assertIs(error.place.__class__, place.__class__)
        self.assertIsNone(caught(InvalidRow, wrong_place, [], [0]).place)
        self.assertIsNone(caught(InvalidRow, wrong_place, [], ()).place)
        self.assertEqual(caught(InvalidRow, wrong_place, [[0]], [1]).place, 0)
        self.assertEqual(caught(InvalidRow, wrong_place, TIES, list(range(11)) + [3]).place, 11)


class PathWith(unittest.TestCase):
    def check_all(self, rule):
        for first, second in itertools.product(range(len(rule)), repeat=2):
            path = path_with(rule, first, second)
            # Unless its knot comes later, a chain leads from the first item to the second one.
            if first == second or second not in reached(rule, first):
                self.assertIsNone(path, (rule, first, second))
            else:
                self.assertIsInstance(path, list)
                self.assertEqual(sorted(path), list(range(len(rule))), rule)
                self.assertTrue(is_path(rule, path), (rule, path))
                self.assertLess(path.index(first), path.index(second), (rule, path))

    def test_many(self):
        for rule in some_rules():
            self.check_all(rule)

    def test_one_knot_and_several(self):
        for rule in (TIES, SEVERAL, long_ring(), three_groups(1), three_groups(2), rule_of_numbers(list(range(12)))):
            self.check_all(rule)

    def test_knots_and_none(self):
        self.assertIsNone(path_with([[0, -1], [1, 0]], 1, 0))
        self.assertEqual(path_with([[0, -1], [1, 0]], 0, 1), [0, 1])
        self.assertEqual(path_with([[0, 0], [0, 0]], 1, 0), [1, 0])
        self.assertIsNone(path_with([[0]], 0, 0))
        self.assertIsNone(path_with(SEVERAL, 2, 1))

    def test_unknown_items(self):
        for thing in ODD_THINGS + [-1, 3, 10 ** 5000, [], [0]]:
            self.assertIs(caught(UnknownItem, path_with, RING, thing, 0).item, thing)
            self.assertIs(caught(UnknownItem, path_with, RING, 0, thing).item, thing)
            self.assertIs(caught(UnknownItem, path_with, RING, thing, thing).item, thing)
            # The first one is looked at first.
            self.assertIs(caught(UnknownItem, path_with, RING, thing, -7).item, thing)
            self.assertEqual(caught(UnknownItem, path_with, RING, -7, thing).item, -7)
        self.assertEqual(caught(UnknownItem, path_with, [], 0, 0).item, 0)


class CountPaths(unittest.TestCase):
    def test_some(self):
        self.assertEqual(count_paths(RING), 3)
        self.assertEqual(count_paths([]), 1)
        self.assertEqual(count_paths([[0]]), 1)
        self.assertEqual(count_paths([[0, 0], [0, 0]]), 2)
        self.assertEqual(count_paths([[0, 1], [-1, 0]]), 1)

    def test_twelve_items_that_all_tie(self):
        self.assertEqual(count_paths(TIES), 479001600)

    def test_twelve_items_in_order(self):
        self.assertEqual(count_paths(rule_of_numbers(list(range(12, 0, -1)))), 1)

    def test_several_knots(self):
        self.assertEqual(count_paths(SEVERAL), 2 * 3 * 120 * 2)
        self.assertEqual(count_paths(one_after_the_other([FORTY, TWENTY_FIVE])), 1000)

    def test_up_to_six_items_against_all_rows(self):
        for rule in some_rules(6, 8):
            count = count_paths(rule)
            self.assertEqual(count, len(all_paths(rule)), rule)
            self.assertIs(count.__class__, int)

    def test_up_to_twelve_items(self):
        for size in range(7, 13):
            for seed in range(2):
                for answers in ((-1, 0, 1), (-1, 1), (-1, -1, -1, 0)):
                    rule = random_rule(size, seed, answers)
                    self.assertEqual(count_paths(rule), count_apart(rule), rule)

    def test_even_or_odd(self):
        for rule in some_rules(6, 3):
            strict = [row for row in all_rows(len(rule)) if all(before(rule, x, y) for x, y in zip(row, row[1:]))]
            self.assertEqual(count_paths(rule) % 2, len(strict) % 2, rule)

    def test_odd_without_ties(self):
        for size in range(13):
            for seed in range(3):
                self.assertEqual(count_paths(random_rule(size, seed, (-1, 1))) % 2, 1)

    def test_opposite_answers_and_other_names(self):
        for size in range(13):
            for seed, answers in enumerate(((-1, 0, 1), (-1, 1), (-1, -1, 0))):
                rule = random_rule(size, seed, answers)
                names = random.Random(seed).sample(range(size), size)
                count = count_paths(rule)
                self.assertEqual(count_paths([[-told for told in row] for row in rule]), count, rule)
                self.assertEqual(count_paths(part_of(rule, names)), count, rule)

    def test_the_product_over_the_knots(self):
        rules = [random_rule(12, seed, (-1, -1, -1, -1, -1, 0)) for seed in range(6)]
        for rule in some_rules(7, 4) + rules + [SEVERAL]:
            counts = [count_paths(part_of(rule, knot)) for knot in knots(rule)]
            self.assertEqual(count_paths(rule), math.prod(counts), rule)


class EachPath(unittest.TestCase):
    def test_the_example(self):
        self.assertEqual((count_paths(RING), list(each_path(RING))), (3, [[0, 1, 2], [1, 2, 0], [2, 0, 1]]))

    def test_no_item_and_one(self):
        self.assertEqual(list(each_path([])), [[]])
        self.assertEqual(list(each_path([[0]])), [[0]])

    def test_up_to_six_items_against_all_rows(self):
        for rule in some_rules(6, 8):
            self.assertEqual(list(each_path(rule)), all_paths(rule), rule)

    def test_just_a_thousand(self):
        rule = one_after_the_other([FORTY, TWENTY_FIVE, [[0]], [[0]]])
        paths = list(each_path(rule))
        self.assertEqual(len(paths), 1000)
        self.assertEqual(paths, sorted(paths))
        self.assertEqual(len({tuple(path) for path in paths}), 1000)
        for path in paths:
            self.assertEqual(sorted(path), list(range(12)))
            self.assertTrue(is_path(rule, path))

    def test_fewer_of_twelve_items(self):
        numbers = [5, 5, 3, 3, 1, 1, 0, 2, 4, 6, 7, 7]
        for rule in (long_ring(), one_after_the_other([RING] * 4), rule_of_numbers(numbers)):
            paths = list(each_path(rule))
            self.assertEqual(len(paths), count_apart(rule))
            self.assertEqual(paths, sorted(paths))
            self.assertEqual(len({tuple(path) for path in paths}), len(paths))
            self.assertTrue(all(sorted(path) == list(range(12)) and is_path(rule, path) for path in paths))

    def test_too_many(self):
        for rule, count in ((THOUSAND_AND_ONE, 1001), (TIES, 479001600), (SEVERAL, 1440)):
            paths = each_path(rule)
            self.assertEqual(caught(TooMany, next, paths).count, count)

    def test_it_is_a_generator(self):
        self.assertTrue(inspect.isgeneratorfunction(each_path))
        self.assertEqual(list(each_path(rule=RING)), list(each_path(RING)))
        self.assertEqual(list(inspect.signature(each_path).parameters), ["rule"])

    def test_errors_come_with_the_first_path(self):
        for rule, item in ((None, None), ([[1]], 0), ([[0, 0], [1, 0]], 0), ([[0, 0], [0]], 1)):
            paths = each_path(rule)
            self.assertEqual(caught(InvalidRule, next, paths).item, item)

    def test_each_path_is_a_new_list(self):
        expected = all_paths([[0] * 4 for _ in range(4)])
        found = []
        for path in each_path([[0] * 4 for _ in range(4)]):
            found.append(list(path))
            path.reverse()
            path.append(None)
        self.assertEqual(found, expected)
        paths = list(each_path(RING)) + list(each_path(RING))
        self.assertEqual(len({id(path) for path in paths}), 6)

    def test_two_at_a_time(self):
        one, other = each_path(RING), each_path(RING)
        self.assertEqual([next(one), next(other), next(one)], [[0, 1, 2], [0, 1, 2], [1, 2, 0]])


if __name__ == "__main__":
    unittest.main()
