"""Points [27] and [28]: search trees, and removing from them."""

import collections
import copy
import random
import unittest

from knotsorts.errors import HeldItem, InvalidRule, LackingItem, UnknownItem
from knotsorts.rules import rule_of_pairs
from knotsorts.trees import SearchTree
from helpers import (
    ODD_THINGS, RING, all_rows, before, by_parting, caught, random_rule, rule_of_row, some_cases, some_rules,
    telling_rules,
)

NO_ITEMS = ODD_THINGS + [-1, 12, 10 ** 5000, [], [0], "1"]


class TreeByHand:
    """A tree done once more: the left and the right item below each held item."""

    def __init__(self, rule):
        self.rule = rule
        self.root = None
        self.below = {}

    def side(self, item, other):
        return 0 if before(self.rule, item, other) else 1

    def seek(self, item):
        met, at = [], self.root
        while at is not None:
            met.append(at)
            if at == item:
                break
            at = self.below[at][self.side(item, at)]
        return met

    def insert(self, item):
        met = self.seek(item)
        self.below[item] = [None, None]
        if met:
            self.below[met[-1]][self.side(item, met[-1])] = item
        else:
            self.root = item

    def put(self, item, instead):
        """Puts an item or nothing in the place of an item."""
        if self.root == item:
            self.root = instead
        for pair in self.below.values():
            pair[:] = [instead if other == item else other for other in pair]

    def remove(self, item):
        """Removes an item and tells which way it went."""
        left, right = self.below[item]
        if left is None:
            self.put(item, right)
        elif right is None:
            self.put(item, left)
        else:
            other = right
            while self.below[other][0] is not None:
                other = self.below[other][0]
            self.remove(other)
            self.below[other] = self.below[item]
            self.put(item, other)
        del self.below[item]
        return "both" if left is not None and right is not None else "right" if left is None else "left"

    def shape(self, at="root"):
        at = self.root if at == "root" else at
        if at is None:
            return None
        return (self.shape(self.below[at][0]), at, self.shape(self.below[at][1]))

    def row(self, at="root"):
        at = self.root if at == "root" else at
        if at is None:
            return []
        return self.row(self.below[at][0]) + [at] + self.row(self.below[at][1])

    def lost(self):
        return [item for item in sorted(self.below) if item not in self.seek(item)]


def shown(tree):
    return (tree.row, tree.shape, tree.lost, len(tree))


def tree_of(rule, row):
    tree = SearchTree(rule)
    for item in row:
        tree.insert(item)
    return tree


class Trees(unittest.TestCase):
    def test_the_example(self):
        tree = SearchTree(RING)
        told = tree.insert(0), tree.insert(1), tree.insert(2), tree.row, tree.shape, tree.seek(1)
        shape = ((None, 2, None), 0, (None, 1, None))
        self.assertEqual(told, (None, None, None, [2, 0, 1], shape, [0, 1]))

    def test_empty_trees(self):
        for rule in ([], [[0]], RING):
            tree = SearchTree(rule)
            self.assertEqual(shown(tree), ([], None, [], 0))
            for item in range(len(rule)):
                self.assertEqual(tree.seek(item), [])

    def test_one_item(self):
        tree = SearchTree([[0]])
        self.assertIsNone(tree.insert(0))
        self.assertEqual(shown(tree), ([0], (None, 0, None), [], 1))
        self.assertEqual(tree.seek(0), [0])
        self.assertIsNone(tree.remove(0))
        self.assertEqual(shown(tree), ([], None, [], 0))

    def test_ties_go_to_the_right(self):
        tree = tree_of([[0] * 3 for _ in range(3)], [1, 0, 2])
        self.assertEqual(tree.shape, (None, 1, (None, 0, (None, 2, None))))

    def test_seek_of_an_item_that_is_not_held(self):
        tree = tree_of(rule_of_row([0, 1, 2, 3, 4]), [2, 0, 4])
        self.assertEqual(tree.seek(3), [2, 4])
        self.assertEqual(tree.seek(1), [2, 0])
        self.assertEqual(len(tree), 3)
        # In a ring the way to it goes on.
        tree = tree_of(RING, [0, 1])
        self.assertEqual(tree.seek(2), [0])

    def test_the_row_is_the_result_of_parting(self):
        for rule, row in some_cases():
            tree = SearchTree(rule)
            for number, item in enumerate(row, 1):
                tree.insert(item)
                self.assertEqual(tree.row, by_parting(rule, row[:number]))
                self.assertEqual((tree.lost, len(tree)), ([], number))
                self.assertTrue(all(tree.seek(held)[-1] == held for held in row[:number]))

    def test_removing_each_kind_of_item(self):
        order = rule_of_row([0, 1, 2, 3, 4, 5, 6])
        row = [3, 1, 0, 5, 4, 6]
        expected = {
            0: ((None, 1, None), 3, ((None, 4, None), 5, (None, 6, None))),
            1: ((None, 0, None), 3, ((None, 4, None), 5, (None, 6, None))),
            3: (((None, 0, None), 1, None), 4, (None, 5, (None, 6, None))),
            4: (((None, 0, None), 1, None), 3, (None, 5, (None, 6, None))),
            5: (((None, 0, None), 1, None), 3, ((None, 4, None), 6, None)),
            6: (((None, 0, None), 1, None), 3, ((None, 4, None), 5, None)),
        }
        for item, shape in expected.items():
            tree = tree_of(order, row)
            self.assertIsNone(tree.remove(item))
            self.assertEqual(tree.shape, shape, item)
            self.assertEqual(tree.row, [held for held in [0, 1, 3, 4, 5, 6] if held != item])

    def test_the_leftmost_item_may_have_a_right_part(self):
        tree = tree_of(rule_of_row([0, 1, 2, 3, 4, 5]), [1, 0, 5, 2, 4, 3])
        tree.remove(1)
        self.assertEqual(tree.shape, ((None, 0, None), 2, (((None, 3, None), 4, None), 5, None)))
        # And it may be the root of the right part.
        tree = tree_of(rule_of_row([0, 1, 2, 3]), [1, 0, 2, 3])
        tree.remove(1)
        self.assertEqual(tree.shape, ((None, 0, None), 2, (None, 3, None)))

    def test_items_are_lost_and_removed(self):
        # Item 0 may precede 1, 1 may precede 2, and 2 is before 0.
        tree = tree_of(rule_of_pairs(3, [(2, 0)]), [0, 1, 2])
        self.assertEqual(tree.shape, ((None, 2, None), 0, (None, 1, None)))
        tree.remove(0)
        # Item 2 would be sought to the right of item 1.
        self.assertEqual(shown(tree), ([2, 1], ((None, 2, None), 1, None), [2], 2))
        self.assertEqual(tree.seek(2), [1])
        # It is held, and it is removed.
        self.assertEqual(caught(HeldItem, tree.insert, 2).item, 2)
        tree.remove(2)
        self.assertEqual(shown(tree), ([1], (None, 1, None), [], 1))
        tree.insert(2)
        self.assertEqual(shown(tree), ([1, 2], (None, 1, (None, 2, None)), [], 2))

    def test_lost_items_are_found_again(self):
        tree = tree_of(rule_of_pairs(3, [(2, 0)]), [0, 1, 2])
        tree.remove(0)
        self.assertEqual(tree.lost, [2])
        tree.remove(1)
        self.assertEqual((tree.lost, tree.row, tree.seek(2)), ([], [2], [2]))

    def check_steps(self, rule, seed, many, seen):
        chance = random.Random(seed)
        tree, model = SearchTree(rule), TreeByHand(rule)
        for _ in range(many):
            item = chance.randrange(len(rule))
            step = chance.choice(["insert", "insert", "remove", "seek", "unknown"])
            if step == "seek":
                self.assertEqual(tree.seek(item), model.seek(item))
            elif step == "unknown":
                wrong = chance.choice([-1, len(rule), None, True, "0", [item]])
                call = chance.choice([tree.insert, tree.remove, tree.seek])
                self.assertIs(caught(UnknownItem, call, wrong).item, wrong)
            elif step == "insert" and item in model.below:
                self.assertEqual(caught(HeldItem, tree.insert, item).item, item)
                seen["held", item in model.lost()] += 1
            elif step == "insert":
                self.assertIsNone(tree.insert(item))
                model.insert(item)
            elif item not in model.below:
                self.assertEqual(caught(LackingItem, tree.remove, item).item, item)
                seen["lacking"] += 1
            else:
                seen["root", item == model.root] += 1
                seen["lost", item in model.lost()] += 1
                seen["last", len(model.below) == 1] += 1
                self.assertIsNone(tree.remove(item))
                seen[model.remove(item)] += 1
            self.assertEqual(shown(tree), (model.row(), model.shape(), model.lost(), len(model.below)))
            self.assertEqual([tree.seek(x) for x in range(len(rule))], [model.seek(x) for x in range(len(rule))])

    def test_many_steps(self):
        seen = collections.Counter()
        rules = [rule for rule in some_rules(12, 2) if rule]
        for seed, rule in enumerate(rules[::3] + rules[-80:] + telling_rules()):
            self.check_steps(rule, seed, 30 + 6 * len(rule), seen)
        kinds = [("root", True), ("lost", True), ("last", True), ("held", True), "lacking", "left", "right", "both"]
        for kind in kinds:
            self.assertGreater(seen[kind], 20, kind)

    def test_removing_all_in_any_order(self):
        for seed in range(8):
            rule = random_rule(5, seed)
            for row in all_rows(5)[seed::17]:
                for back in all_rows(5)[seed::19]:
                    tree, model = tree_of(rule, row), TreeByHand(rule)
                    for item in row:
                        model.insert(item)
                    for item in back:
                        tree.remove(item)
                        model.remove(item)
                        self.assertEqual((tree.shape, tree.lost), (model.shape(), model.lost()))


class Errors(unittest.TestCase):
    def test_unknown_items(self):
        tree = tree_of(random_rule(12, 1), [4, 1, 7, 0])
        earlier = shown(tree)
        for thing in NO_ITEMS:
            for call in (tree.insert, tree.remove, tree.seek):
                self.assertIs(caught(UnknownItem, call, thing).item, thing)
                self.assertEqual(shown(tree), earlier)
        for call in (SearchTree([]).insert, SearchTree([]).remove, SearchTree([]).seek):
            self.assertEqual(caught(UnknownItem, call, 0).item, 0)

    def test_held_and_lacking_items(self):
        for rule in [rule for rule in some_rules(6, 3) if len(rule) > 3][::10]:
            row = list(range(len(rule)))
            tree = tree_of(rule, row[:2])
            earlier = shown(tree)
            for item in row[:2]:
                self.assertEqual(caught(HeldItem, tree.insert, item).item, item)
            for item in row[2:]:
                self.assertEqual(caught(LackingItem, tree.remove, item).item, item)
            self.assertEqual(shown(tree), earlier)

    def test_invalid_rules(self):
        for rule, item in ((None, None), ([0], None), ([[1]], 0), ([[0, 0], [0, 2]], 1), ([[0, 1], [1, 0]], 0)):
            self.assertEqual(caught(InvalidRule, SearchTree, rule).item, item)


class Objects(unittest.TestCase):
    def test_properties_are_read_only(self):
        tree = tree_of(RING, [0, 1])
        earlier = shown(tree)
        for name in ("row", "lost", "shape"):
            with self.assertRaises(AttributeError):
                setattr(tree, name, [])
            with self.assertRaises(AttributeError):
                delattr(tree, name)
        self.assertEqual(shown(tree), earlier)

    def test_lists_are_new(self):
        tree = tree_of(rule_of_pairs(3, [(2, 0)]), [0, 1, 2])
        tree.remove(0)
        earlier = copy.deepcopy(shown(tree))
        for _ in range(2):
            for told in (tree.row, tree.lost, tree.seek(2)):
                told.append(0)
                told.reverse()
            self.assertEqual(shown(tree), earlier)
            self.assertEqual(tree.seek(2), [1])
        self.assertIsNot(tree.row, tree.row)
        self.assertIsNot(tree.lost, tree.lost)
        self.assertIsNot(tree.seek(1), tree.seek(1))

    def test_kinds(self):
        tree = tree_of(RING, [0, 1, 2])
        self.assertEqual([part.__class__ for part in (tree.row, tree.lost, tree.shape, tree.seek(0))],
                         [list, list, tuple, list])

    def test_the_rule_is_copied(self):
        for change in ("answers", "lists"):
            rule = copy.deepcopy(RING)
            tree = SearchTree(rule)
            tree.insert(0)
            if change == "answers":
                rule[1][0], rule[0][1] = -1, 1
            else:
                rule.clear()
            tree.insert(1)
            tree.insert(2)
            self.assertEqual(tree.shape, ((None, 2, None), 0, (None, 1, None)))
        rule = copy.deepcopy(RING)
        tree = tree_of(rule, [0, 1, 2])
        tree.remove(1)
        self.assertEqual(rule, RING)

    def test_two_trees_of_one_rule(self):
        one, other = SearchTree(RING), SearchTree(RING)
        one.insert(0)
        self.assertEqual((len(one), len(other)), (1, 0))

    def test_by_name(self):
        tree = SearchTree(rule=RING)
        self.assertIsNone(tree.insert(item=2))
        self.assertEqual(tree.seek(item=2), [2])
        self.assertIsNone(tree.remove(item=2))
        self.assertEqual(len(tree), 0)

    def test_methods_are_defined_in_the_class_itself(self):
        for name in ("__init__", "insert", "remove", "seek", "__len__", "row", "lost", "shape"):
            self.assertIn(name, vars(SearchTree))


if __name__ == "__main__":
    unittest.main()
