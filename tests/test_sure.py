"""Points [19], [20] and [21]: what is sure for all inputs, and inputs for what is possible."""

import itertools
import unittest

from knotsorts.errors import UnknownItem, UnknownSort
from knotsorts.knots import knots
from knotsorts.rules import partial_order, rule_of_numbers, rule_of_pairs, weak_order
from knotsorts.sure import covers, input_with, sure_pairs
from helpers import (
    NO_SORTS, ODD_THINGS, RING, SURE_SORTS, all_rows, before, by_choosing, by_halving, by_insertion, by_parting, caught,
    long_ring, may_precede, random_rule, some_rows, some_rules, three_groups, wrong_of,
)

# What is no name of one of the three sorts.
OTHER_SORTS = NO_SORTS + ["halving", "merging", "bubbling", "heaping"]
CHAIN = [[0, -1, 0], [1, 0, -1], [0, 1, 0]]


def possible(rule, sort):
    """The pairs of items of which the first one is ahead in the result for some input, from all inputs."""
    found = set()
    for row in all_rows(len(rule)):
        found.update(itertools.combinations(SURE_SORTS[sort](rule, row), 2))
    return found


def led_to(rule, start):
    """The items to which a chain of items leads from an item, each before the next one."""
    found, todo = set(), [start]
    while todo:
        one = todo.pop()
        for other in range(len(rule)):
            if before(rule, one, other) and other not in found:
                found.add(other)
                todo.append(other)
    return found


def sure_by_the_text(rule, sort):
    """The sure pairs as points [19] and [20] tell them."""
    items = range(len(rule))
    pairs = list(itertools.product(items, repeat=2))
    if sort == "insertion":
        place = {item: number for number, knot in enumerate(knots(rule)) for item in knot}
        return [(x, y) for x, y in pairs if place[x] < place[y]]
    if sort == "parting":
        behind = {y: [z for z in items if before(rule, y, z)] for y in items}
    else:
        behind = {y: led_to(rule, y) for y in items}
    return [(x, y) for x, y in pairs if before(rule, x, y) and all(before(rule, x, z) for z in behind[y])]


class TheSortsOfTheTests(unittest.TestCase):
    def test_they_sort_as_the_document_says(self):
        sorts = [by_insertion, by_halving, by_parting, by_choosing]
        self.assertEqual([sort(RING, [2, 1, 0]) for sort in sorts], [[1, 2, 0], [1, 2, 0], [1, 2, 0], [0, 1, 2]])


class Covers(unittest.TestCase):
    def test_some(self):
        self.assertIs(covers([[0, -1], [1, 0]], 0, 1), True)
        self.assertIs(covers([[0, -1], [1, 0]], 1, 0), False)
        self.assertIs(covers([[0, 0], [0, 0]], 0, 1), False)
        # Item 0 is before 1, but not before 2, which 1 is before.
        self.assertIs(covers(CHAIN, 0, 1), False)
        self.assertIs(covers(CHAIN, 1, 2), True)
        self.assertIs(covers(RING, 0, 1), False)

    def test_no_item_covers_itself(self):
        for rule in (RING, [[0]], [[0, -1], [1, 0]], [[0, 0], [0, 0]]):
            for item in range(len(rule)):
                self.assertIs(covers(rule, item, item), False)

    def test_many(self):
        for rule in some_rules():
            expected = sure_by_the_text(rule, "parting")
            for pair in itertools.product(range(len(rule)), repeat=2):
                self.assertIs(covers(rule, *pair), pair in expected, (rule, pair))

    def test_unknown_items(self):
        for thing in ODD_THINGS + [-1, 3, 10 ** 5000, [], [0]]:
            self.assertIs(caught(UnknownItem, covers, RING, thing, 0).item, thing)
            self.assertIs(caught(UnknownItem, covers, RING, 0, thing).item, thing)
            self.assertIs(caught(UnknownItem, covers, RING, thing, -7).item, thing)
            self.assertEqual(caught(UnknownItem, covers, RING, -7, thing).item, -7)


class SurePairs(unittest.TestCase):
    def test_the_example(self):
        rule = [[0, -1, 0], [1, 0, 0], [0, 0, 0]]
        self.assertEqual((sure_pairs(rule), sure_pairs(rule, sort="parting")), ([], [(0, 1)]))

    def test_the_sort_is_insertion_unless_given(self):
        for rule in some_rules(6):
            self.assertEqual(sure_pairs(rule), sure_pairs(rule, sort="insertion"))

    def test_few_items(self):
        for sort in SURE_SORTS:
            self.assertEqual(sure_pairs([], sort=sort), [])
            self.assertEqual(sure_pairs([[0]], sort=sort), [])
            self.assertEqual(sure_pairs([[0, 1], [-1, 0]], sort=sort), [(1, 0)])
            self.assertEqual(sure_pairs([[0, 0], [0, 0]], sort=sort), [])
            self.assertEqual(sure_pairs(RING, sort=sort), [])

    def test_parting_is_sure_where_choosing_is_not(self):
        # Item 0 covers 1; but 2, which 1 is before, is before 3, and 0 is not.
        rule = rule_of_pairs(4, [(0, 1), (0, 2), (1, 2), (2, 3)])
        self.assertEqual(sure_pairs(rule, sort="parting"), [(0, 1), (2, 3)])
        self.assertEqual(sure_pairs(rule, sort="choosing"), [(2, 3)])

    def test_up_to_five_items_against_all_inputs(self):
        for rule in some_rules(5, 40):
            for sort in SURE_SORTS:
                found = possible(rule, sort)
                pairs = itertools.permutations(range(len(rule)), 2)
                expected = [(x, y) for x, y in pairs if (y, x) not in found]
                self.assertEqual(sure_pairs(rule, sort=sort), expected, (rule, sort))

    def test_up_to_twelve_items(self):
        for rule in some_rules() + [three_groups(1), long_ring(), rule_of_numbers(list(range(12)))]:
            for sort in SURE_SORTS:
                pairs = sure_pairs(rule, sort=sort)
                self.assertEqual(pairs, sure_by_the_text(rule, sort), (rule, sort))
                self.assertTrue(all(isinstance(pair, tuple) for pair in pairs))

    def test_what_is_sure_of_one_sort_is_sure_of_the_next_one(self):
        for rule in some_rules():
            pairs = {sort: set(sure_pairs(rule, sort=sort)) for sort in SURE_SORTS}
            self.assertLessEqual(pairs["insertion"], pairs["choosing"], rule)
            self.assertLessEqual(pairs["choosing"], pairs["parting"], rule)

    def test_partial_orders(self):
        for rule in some_rules():
            pairs = [(x, y) for x, y in itertools.product(range(len(rule)), repeat=2) if before(rule, x, y)]
            if partial_order(rule) is None:
                self.assertEqual(sure_pairs(rule, sort="parting"), pairs)
                self.assertEqual(sure_pairs(rule, sort="choosing"), pairs)
                self.assertEqual(sure_pairs(rule) == pairs, weak_order(rule) is None)

    def test_the_rule_from_the_sure_pairs(self):
        for seed, rule in enumerate(some_rules()):
            for sort, by_hand in SURE_SORTS.items():
                surely = rule_of_pairs(len(rule), sure_pairs(rule, sort=sort))
                self.assertIsNone(partial_order(surely))
                for row in some_rows(len(rule), seed, 3):
                    self.assertEqual(wrong_of(surely, by_hand(rule, row)), [])

    def test_other_sorts(self):
        for sort in OTHER_SORTS:
            self.assertIs(caught(UnknownSort, sure_pairs, RING, sort=sort).name, sort)

    def test_the_sort_is_keyword_only(self):
        with self.assertRaises(TypeError):
            sure_pairs(RING, "parting")


class InputWith(unittest.TestCase):
    def check_all(self, rule):
        """Each input that is returned is one. Returns the pairs for which there is one, by sorts."""
        told = {}
        for sort, by_hand in SURE_SORTS.items():
            told[sort] = set()
            for first, second in itertools.product(range(len(rule)), repeat=2):
                row = input_with(rule, first, second, sort=sort)
                if row is not None:
                    told[sort].add((first, second))
                    self.assertIsInstance(row, list)
                    self.assertEqual(sorted(row), list(range(len(rule))), (rule, sort))
                    result = by_hand(rule, row)
                    self.assertLess(result.index(first), result.index(second), (rule, sort, row))
        return told

    def test_up_to_five_items_against_all_inputs(self):
        for rule in some_rules(5, 20):
            told = self.check_all(rule)
            for sort in SURE_SORTS:
                self.assertEqual(told[sort], possible(rule, sort), (rule, sort))

    def test_up_to_twelve_items(self):
        rules = [rule for rule in some_rules(12, 3) if len(rule) > 5]
        for rule in rules + [three_groups(1), long_ring(), rule_of_numbers(list(range(12)))]:
            told = self.check_all(rule)
            for sort in SURE_SORTS:
                sure = sure_by_the_text(rule, sort)
                pairs = itertools.permutations(range(len(rule)), 2)
                self.assertEqual(told[sort], {(x, y) for x, y in pairs if (y, x) not in sure}, (rule, sort))

    def test_a_long_chain(self):
        # Item 11 is before all others but item 10, to which a chain of all others leads from item 0.
        rule = rule_of_pairs(12, [(11, item) for item in range(10)] + [(item, item + 1) for item in range(10)])
        row = input_with(rule, 0, 11, sort="choosing")
        result = by_choosing(rule, row)
        self.assertLess(result.index(0), result.index(11))
        # No shorter way: item 11 covers item 0.
        self.assertIsNone(input_with(rule, 0, 11, sort="parting"))

    def test_equal_items(self):
        for sort in SURE_SORTS:
            self.assertIsNone(input_with(RING, 1, 1, sort=sort))
            self.assertIsNone(input_with([[0]], 0, 0, sort=sort))

    def test_the_sort_is_insertion_unless_given(self):
        for rule in some_rules(5):
            for first, second in itertools.product(range(len(rule)), repeat=2):
                expected = input_with(rule, first, second, sort="insertion")
                self.assertEqual(input_with(rule, first, second), expected)

    def test_unknown_items(self):
        for thing in ODD_THINGS + [-1, 3, 10 ** 5000, [], [0]]:
            for sort in ("insertion", "parting", "choosing", "halving", None):
                self.assertIs(caught(UnknownItem, input_with, RING, thing, 0, sort=sort).item, thing)
                self.assertIs(caught(UnknownItem, input_with, RING, 0, thing, sort=sort).item, thing)
                self.assertIs(caught(UnknownItem, input_with, RING, thing, -7, sort=sort).item, thing)
                self.assertEqual(caught(UnknownItem, input_with, RING, -7, thing, sort=sort).item, -7)

    def test_other_sorts(self):
        for sort in OTHER_SORTS:
            self.assertIs(caught(UnknownSort, input_with, RING, 0, 1, sort=sort).name, sort)
            self.assertIs(caught(UnknownSort, input_with, RING, 1, 1, sort=sort).name, sort)

    def test_the_sort_is_keyword_only(self):
        with self.assertRaises(TypeError):
            input_with(RING, 0, 1, "parting")


class OneWitness(unittest.TestCase):
    def test_weak_orders(self):
        for seed, rule in enumerate(some_rules()):
            if weak_order(rule) is None:
                for row in some_rows(len(rule), seed):
                    result = by_insertion(rule, row)
                    for sort in (by_halving, by_parting, by_choosing):
                        self.assertEqual(sort(rule, row), result)
                self.assertEqual(sure_pairs(rule), sure_pairs(rule, sort="parting"))

    def test_other_rules(self):
        for rule in some_rules():
            told = weak_order(rule)
            if told is not None:
                x, y, z = told
                self.assertTrue(may_precede(rule, x, y) and may_precede(rule, y, z) and before(rule, z, x))
                row = [x, y, z] + [item for item in range(len(rule)) if item not in told]
                for sort, ahead, behind in ((by_insertion, x, z), (by_halving, x, z), (by_parting, z, x)):
                    result = sort(rule, row)
                    self.assertLess(result.index(ahead), result.index(behind), (rule, row))
                self.assertIsNotNone(input_with(rule, x, z))
                self.assertIsNotNone(input_with(rule, z, x, sort="parting"))
                self.assertNotIn((z, x), sure_pairs(rule))
                self.assertNotIn((x, z), sure_pairs(rule, sort="parting"))


if __name__ == "__main__":
    unittest.main()
