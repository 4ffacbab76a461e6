"""Point [21]: three items that show that a rule is no weak order, to sorts, trees and kept rows."""

import itertools
import random
import unittest

from knotsorts.kinds import KeptRow
from knotsorts.rules import weak_order
from knotsorts.sorts import sorted_row
from knotsorts.trees import SearchTree
from helpers import (
    FAITHFUL, all_rules, before, may_precede, number_rule, random_rule, some_rows, some_rules, telling_rules,
)


def weak_orders():
    rules = [rule for rule in some_rules(4, 0) if weak_order(rule) is None]
    chance = random.Random(3)
    for size in range(5, 13):
        for kinds in (1, 2, 4, 30):
            rules.append(number_rule([chance.randrange(kinds) for _ in range(size)]))
    return rules


def witnesses(rule):
    """All items x, y and z such that x may precede y, y may precede z, and z is before x."""
    triples = itertools.permutations(range(len(rule)), 3)
    return [(x, y, z) for x, y, z in triples
            if may_precede(rule, x, y) and may_precede(rule, y, z) and before(rule, z, x)]


class WeakOrders(unittest.TestCase):
    def test_all_faithful_sorts_give_one_row(self):
        for seed, rule in enumerate(weak_orders()):
            for row in some_rows(len(rule), seed, 6):
                self.assertEqual(len({tuple(sorted_row(rule, row, sort)) for sort in FAITHFUL}), 1, (rule, row))

    def test_removing_from_a_tree_loses_no_item(self):
        for seed, rule in enumerate(weak_orders()):
            chance = random.Random(seed)
            for row in some_rows(len(rule), seed, 4)[:8]:
                tree = SearchTree(rule)
                for item in row:
                    tree.insert(item)
                for item in chance.sample(row, len(row)):
                    tree.remove(item)
                    self.assertEqual(tree.lost, [])

    def test_removing_from_a_kept_row_changes_no_order(self):
        for seed, rule in enumerate(weak_orders()):
            chance = random.Random(seed)
            for row in some_rows(len(rule), seed, 4)[:8]:
                kept = KeptRow(rule)
                for item in row:
                    kept.add(item)
                for item in chance.sample(row, len(row)):
                    others = [other for other in kept.row if other != item]
                    self.assertIs(kept.remove(item), False)
                    self.assertEqual(kept.row, others)


class OtherRules(unittest.TestCase):
    def rules(self):
        rules = some_rules(4, 0) + [random_rule(size, size) for size in range(5, 13)] + telling_rules()
        return [rule for rule in rules if weak_order(rule) is not None]

    def test_there_is_a_witness_just_if_it_is_no_weak_order(self):
        for rule in all_rules(4):
            self.assertEqual(weak_order(rule), min(witnesses(rule), default=None))

    def test_sorts(self):
        for rule in self.rules():
            for x, y, z in witnesses(rule)[:30]:
                row = [x, y, z] + [item for item in range(len(rule)) if item not in (x, y, z)]
                for sort in ("insertion", "halving"):
                    result = sorted_row(rule, row, sort)
                    self.assertLess(result.index(x), result.index(z), (rule, row, sort))
                result = sorted_row(rule, row, "parting")
                self.assertLess(result.index(z), result.index(x), (rule, row))

    def test_trees(self):
        for rule in self.rules():
            for x, y, z in witnesses(rule)[:30]:
                tree = SearchTree(rule)
                for item in (x, y, z):
                    tree.insert(item)
                tree.remove(x)
                self.assertEqual(tree.lost, [z], (rule, x, y, z))
                self.assertEqual(sorted(tree.row), sorted((y, z)))

    def test_kept_rows(self):
        for rule in self.rules():
            for x, y, z in witnesses(rule)[:30]:
                kept = KeptRow(rule)
                for item in (x, y, z):
                    kept.add(item)
                self.assertIs(kept.remove(y), True, (rule, x, y, z))
                self.assertEqual(kept.row, [z, x])


if __name__ == "__main__":
    unittest.main()
