"""Point [30]: kept rows."""

import collections
import copy
import random
import unittest

from knotsorts.errors import HeldItem, InvalidRule, LackingItem, UnknownItem
from knotsorts.kinds import KeptRow
from knotsorts.rules import rule_of_pairs
from helpers import (
    ODD_THINGS, RING, before, by_halving, caught, is_path, random_rule, rule_of_row, some_cases, some_rules,
    telling_rules,
)

NO_ITEMS = ODD_THINGS + [-1, 12, 10 ** 5000, [], [0], "1"]


class RowByHand:
    """A kept row done once more."""

    def __init__(self, rule):
        self.rule = rule
        self.row = []

    def add(self, item):
        low, high = 0, len(self.row)
        while low < high:
            middle = (low + high) // 2
            low, high = (low, middle) if before(self.rule, item, self.row[middle]) else (middle + 1, high)
        self.row[low:low] = [item]
        return low

    def remove(self, item):
        at = self.row.index(item)
        left, out = self.row[:at], self.row[at + 1:]
        expected = left + out
        for other in out:
            place = len(left)
            while place and before(self.rule, other, left[place - 1]):
                place -= 1
            left = left[:place] + [other] + left[place:]
        self.row = left
        return left != expected


def shown(kept):
    return (kept.row, len(kept), kept.rule, [item for item in range(-2, 14) if item in kept])


def kept_of(rule, row):
    kept = KeptRow(rule)
    for item in row:
        kept.add(item)
    return kept


class KeptRows(unittest.TestCase):
    def test_empty_rows(self):
        for rule in ([], [[0]], RING):
            kept = KeptRow(rule)
            self.assertEqual(shown(kept), ([], 0, rule, []))

    def test_one_item(self):
        kept = KeptRow([[0]])
        self.assertEqual(kept.add(0), 0)
        self.assertEqual(shown(kept), ([0], 1, [[0]], [0]))
        self.assertIs(kept.remove(0), False)
        self.assertEqual(shown(kept), ([], 0, [[0]], []))

    def test_add_returns_the_place(self):
        kept = KeptRow(rule_of_row([0, 1, 2, 3, 4]))
        self.assertEqual([kept.add(item) for item in (2, 0, 4, 1, 3)], [0, 0, 2, 1, 3])
        self.assertEqual(kept.row, [0, 1, 2, 3, 4])
        ties = KeptRow([[0] * 4 for _ in range(4)])
        self.assertEqual([ties.add(item) for item in (3, 1, 0, 2)], [0, 1, 2, 3])

    def test_adding_is_halving(self):
        for rule, row in some_cases():
            self.assertEqual(kept_of(rule, row).row, by_halving(rule, row))

    def test_removing_changes_the_order(self):
        # Item 0 may precede 1, 1 may precede 2, and 2 is before 0.
        kept = kept_of(rule_of_pairs(3, [(2, 0)]), [0, 1, 2])
        self.assertEqual(kept.row, [0, 1, 2])
        self.assertIs(kept.remove(1), True)
        self.assertEqual(kept.row, [2, 0])

    def test_removing_what_changes_nothing(self):
        for item in range(3):
            kept = kept_of(rule_of_row([0, 1, 2]), [2, 0, 1])
            self.assertIs(kept.remove(item), False)
            self.assertEqual(kept.row, [other for other in range(3) if other != item])
        kept = kept_of(rule_of_pairs(3, [(2, 0)]), [0, 1, 2])
        self.assertIs(kept.remove(2), False)
        self.assertEqual(kept.row, [0, 1])

    def test_those_at_later_places_are_put_in_one_after_the_other(self):
        # Taken out are 2, 4 and 3, and item 2 goes ahead of 0. By halving, item 3 would be held against 0 and go
        # ahead of it; from behind, it would be the first one to be put in.
        kept = kept_of(rule_of_pairs(5, [(2, 0), (3, 0), (4, 3)]), [0, 1, 2, 3, 4])
        self.assertEqual(kept.row, [0, 1, 2, 4, 3])
        self.assertIs(kept.remove(1), True)
        self.assertEqual(kept.row, [2, 0, 4, 3])

    def check_steps(self, rule, seed, many, seen):
        chance = random.Random(seed)
        kept, model = KeptRow(rule), RowByHand(rule)
        for _ in range(many):
            item = chance.randrange(len(rule))
            step = chance.choice(["add", "add", "remove", "unknown"])
            if step == "unknown":
                wrong = chance.choice([-1, len(rule), None, True, "0", [item], (item,)])
                call = chance.choice([kept.add, kept.remove])
                self.assertIs(caught(UnknownItem, call, wrong).item, wrong)
            elif step == "add" and item in model.row:
                self.assertEqual(caught(HeldItem, kept.add, item).item, item)
                seen["held"] += 1
            elif step == "add":
                self.assertEqual(kept.add(item), model.add(item))
            elif item not in model.row:
                self.assertEqual(caught(LackingItem, kept.remove, item).item, item)
                seen["lacking"] += 1
            else:
                changed = model.remove(item)
                self.assertIs(kept.remove(item), changed)
                seen["changed", changed] += 1
            self.assertEqual(shown(kept), (model.row, len(model.row), rule, sorted(model.row)))
            self.assertTrue(is_path(rule, kept.row))

    def test_many_steps(self):
        seen = collections.Counter()
        rules = [rule for rule in some_rules(12, 2) if rule]
        for seed, rule in enumerate(rules[::5] + rules[-80:] + telling_rules()):
            self.check_steps(rule, seed, 15 + 5 * len(rule), seen)
        for kind in ("held", "lacking", ("changed", True), ("changed", False)):
            self.assertGreater(seen[kind], 50, kind)


class Errors(unittest.TestCase):
    def test_unknown_items(self):
        kept = kept_of(random_rule(12, 1), [4, 1, 7, 0])
        earlier = shown(kept)
        for thing in NO_ITEMS:
            for call in (kept.add, kept.remove):
                self.assertIs(caught(UnknownItem, call, thing).item, thing)
                self.assertEqual(shown(kept), earlier)
        self.assertEqual(caught(UnknownItem, KeptRow([]).add, 0).item, 0)
        self.assertEqual(caught(UnknownItem, KeptRow([]).remove, 0).item, 0)

    def test_held_and_lacking_items(self):
        for rule in [rule for rule in some_rules(6, 3) if len(rule) > 3][::10]:
            row = list(range(len(rule)))
            kept = kept_of(rule, row[:2])
            earlier = shown(kept)
            for item in row[:2]:
                self.assertEqual(caught(HeldItem, kept.add, item).item, item)
            for item in row[2:]:
                self.assertEqual(caught(LackingItem, kept.remove, item).item, item)
            self.assertEqual(shown(kept), earlier)

    def test_invalid_rules(self):
        for rule, item in ((None, None), ([0], None), ([[1]], 0), ([[0, 0], [0, 2]], 1), ([[0, 1], [1, 0]], 0)):
            self.assertEqual(caught(InvalidRule, KeptRow, rule).item, item)


class Objects(unittest.TestCase):
    def test_what_is_not_held_is_not_in_it(self):
        kept = kept_of(random_rule(12, 2), [0, 1, 5])
        for thing in NO_ITEMS + [2, 11, 13, [1], (1,), "5", {0: 1}, {1}, 1.0, 5.0, b"1", True, False, kept]:
            self.assertIs(thing in kept, False, thing)
        for item in (0, 1, 5):
            self.assertIs(item in kept, True)
        self.assertIs(0 in KeptRow([]), False)

    def test_properties_are_read_only(self):
        kept = kept_of(RING, [0, 1])
        earlier = shown(kept)
        for name in ("row", "rule"):
            with self.assertRaises(AttributeError):
                setattr(kept, name, [])
            with self.assertRaises(AttributeError):
                delattr(kept, name)
        self.assertEqual(shown(kept), earlier)

    def test_lists_are_new(self):
        kept = kept_of(RING, [0, 1, 2])
        earlier = copy.deepcopy(shown(kept))
        kept.row.append(0)
        kept.row.reverse()
        kept.rule.append([])
        kept.rule[0][1] = 5
        self.assertEqual(shown(kept), earlier)
        self.assertIsNot(kept.row, kept.row)
        self.assertIsNot(kept.rule, kept.rule)
        self.assertEqual(len({id(part) for part in kept.rule + kept.rule}), 6)
        self.assertEqual([part.__class__ for part in (kept.row, kept.rule, kept.rule[0])], [list, list, list])

    def test_one_list_that_stands_for_several_items(self):
        answers = [0, 0]
        kept = KeptRow([answers, answers])
        self.assertIsNot(kept.rule[0], kept.rule[1])

    def test_the_rule_is_copied(self):
        for change in ("answers", "lists"):
            rule = copy.deepcopy(RING)
            kept = KeptRow(rule)
            kept.add(0)
            if change == "answers":
                rule[1][0], rule[0][1] = -1, 1
            else:
                rule.clear()
            kept.add(1)
            self.assertEqual((kept.row, kept.rule), ([0, 1], RING))
        rule = copy.deepcopy(RING)
        kept_of(rule, [0, 1, 2]).remove(1)
        self.assertEqual(rule, RING)

    def test_two_rows_of_one_rule(self):
        one, other = KeptRow(RING), KeptRow(RING)
        one.add(0)
        self.assertEqual((len(one), len(other)), (1, 0))

    def test_by_name(self):
        kept = KeptRow(rule=RING)
        self.assertEqual(kept.add(item=2), 0)
        self.assertIs(kept.remove(item=2), False)
        self.assertEqual(len(kept), 0)

    def test_methods_are_defined_in_the_class_itself(self):
        for name in ("__init__", "add", "remove", "__len__", "__contains__", "row", "rule"):
            self.assertIn(name, vars(KeptRow))


if __name__ == "__main__":
    unittest.main()
