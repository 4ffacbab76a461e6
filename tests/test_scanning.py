"""Point [24]: scanning lists of items."""

import itertools
import random
import unittest

from knotsorts.errors import InvalidItems, UnknownItem
from knotsorts.knots import knots
from knotsorts.rules import rule_of_numbers, rule_of_pairs
from knotsorts.scanning import input_keeping, scan
from helpers import (
    ODD_THINGS, RING, all_rows, before, by_choosing, caught, long_ring, one_after_the_other, random_rule, some_rules,
    three_groups,
)


def kept_by_hand(rule, items):
    kept = []
    for item in items:
        if not kept or before(rule, item, kept[-1]):
            kept.append(item)
    return kept


def can_be_kept(rule, item):
    """Whether there are items as point [24] asks for, looked for among all of them."""
    def from_here(chain):
        earlier = [u for u in range(len(rule)) if before(rule, u, item) and u not in chain]
        if all(any(not before(rule, u, v) for v in chain[1:]) for u in earlier):
            return True
        nexts = [v for v in range(len(rule)) if before(rule, chain[-1], v) and v not in chain]
        return any(from_here(chain + [v]) for v in nexts)

    return from_here([item])


class Scan(unittest.TestCase):
    def test_the_example(self):
        self.assertEqual(scan([[0, -1, 1], [1, 0, -1], [-1, 1, 0]], [2, 0, 1]), [2, 1])

    def test_one_item(self):
        self.assertEqual(scan([[0]], [0]), [0])
        self.assertEqual(scan(RING, [2]), [2])

    def test_items_repeated(self):
        self.assertEqual(scan([[0]], [0, 0, 0]), [0])
        self.assertEqual(scan(RING, [0, 2, 1, 0, 2, 2, 1]), [0, 2, 1, 0, 2, 1])
        self.assertEqual(scan([[0, 0], [0, 0]], [1, 0, 1, 0]), [1])
        self.assertEqual(scan([[0, -1], [1, 0]], [1, 1, 0, 1, 0]), [1, 0])

    def test_only_the_kept_item_counts(self):
        # Item 2 is not before 1, which is kept, though it is before 0.
        rule = rule_of_pairs(3, [(1, 0), (2, 0)])
        self.assertEqual(scan(rule, [0, 1, 2]), [0, 1])

    def test_many(self):
        for seed, rule in enumerate(some_rules()):
            chance = random.Random(seed)
            if rule:
                for many in (1, 5, 60):
                    items = [chance.randrange(len(rule)) for _ in range(many)]
                    self.assertEqual(scan(rule, items), kept_by_hand(rule, items), (rule, items))

    def test_no_list_or_an_empty_one(self):
        for items in ODD_THINGS + [0, [], (0, 1), "012"]:
            self.assertIsNone(caught(InvalidItems, scan, RING, items).index)
        self.assertIsNone(caught(InvalidItems, scan, [], []).index)

    def test_no_items(self):
        for thing in ODD_THINGS + [-1, 3, 10 ** 5000, [], [0]]:
            for items, index in (([thing], 0), ([0, 1, thing, 2], 2), ([2, thing, thing], 1), ([0] * 59 + [thing], 59)):
                error = caught(InvalidItems, scan, RING, items)
                self.assertEqual(error.index, index)
                self.assertIs(error.index.__class__, int)
        self.assertEqual(caught(InvalidItems, scan, [], [0]).index, 0)


class InputKeeping(unittest.TestCase):
    def check(self, rule, item):
        """What is returned is a row that keeps the item, or None. Returns whether it is a row."""
        row = input_keeping(rule, item)
        if row is None:
            return False
        self.assertIsInstance(row, list)
        self.assertEqual(sorted(row), list(range(len(rule))), (rule, item))
        self.assertEqual(kept_by_hand(rule, row)[-1], item, (rule, row))
        # So choosing puts the item first.
        self.assertEqual(by_choosing(rule, row)[0], item)
        return True

    def test_few_items(self):
        self.assertEqual(input_keeping([[0]], 0), [0])
        self.assertTrue(self.check([[0, -1], [1, 0]], 0))
        self.assertIsNone(input_keeping([[0, -1], [1, 0]], 1))
        self.assertEqual(input_keeping([[0, 0], [0, 0]], 1), [1, 0])
        self.assertTrue(all(self.check(RING, item) for item in range(3)))

    def test_one_knot_does_not_help_with_ties(self):
        # Item 2 ties with both others and makes one knot; but only item 0 is before item 1.
        rule = rule_of_pairs(3, [(0, 1)])
        self.assertEqual([self.check(rule, item) for item in range(3)], [True, False, True])

    def test_up_to_six_items_against_all_rows(self):
        for rule in some_rules(6, 10):
            kept = {kept_by_hand(rule, row)[-1] for row in all_rows(len(rule)) if row}
            for item in range(len(rule)):
                self.assertEqual(self.check(rule, item), item in kept, (rule, item))

    def test_up_to_ten_items_against_the_text(self):
        for size in range(7, 11):
            kinds = ((-1, 0, 1), (-1, 1), (-1, 0, 0, 0, 1), (-1, -1, -1, 0, 1))
            for seed, answers in itertools.product(range(3), kinds):
                rule = random_rule(size, seed, answers)
                for item in range(size):
                    self.assertEqual(self.check(rule, item), can_be_kept(rule, item), (rule, item))

    def test_without_ties_just_the_first_knot(self):
        rules = [random_rule(size, seed, (-1, 1)) for size in range(1, 13) for seed in range(4)]
        for one, other in itertools.product(range(3), repeat=2):
            rules.append(one_after_the_other([random_rule(5, one, (-1, 1)), random_rule(7, other, (-1, 1))]))
        for rule in rules + [long_ring(), rule_of_numbers(list(range(12)))]:
            first = knots(rule)[0]
            for item in range(len(rule)):
                self.assertEqual(self.check(rule, item), item in first, (rule, item))

    def test_twelve_items(self):
        # Item 0 is before all others, which have many chains among them, all in vain.
        rule = one_after_the_other([[[0]], random_rule(11, 5, (-1, 1))])
        self.assertEqual([self.check(rule, item) for item in range(12)], [True] + [False] * 11)
        self.assertTrue(all(self.check([[0] * 12 for _ in range(12)], item) for item in range(12)))
        for seed in range(3):
            rule = three_groups(seed)
            self.assertTrue(any(self.check(rule, item) for item in range(12)))

    def test_unknown_items(self):
        for thing in ODD_THINGS + [-1, 3, 10 ** 5000, [], [0]]:
            self.assertIs(caught(UnknownItem, input_keeping, RING, thing).item, thing)
        self.assertEqual(caught(UnknownItem, input_keeping, [], 0).item, 0)


if __name__ == "__main__":
    unittest.main()
