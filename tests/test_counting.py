"""Points [25] and [26]: how many inputs there are for a row, and which items stand first."""

import collections
import itertools
import math
import time
import unittest

from knotsorts.counting import count_inputs, firsts, input_with_first
from knotsorts.errors import InvalidRow, InvalidRule, UnknownItem, UnknownSort
from knotsorts.knots import knots
from knotsorts.results import input_for
from knotsorts.scanning import input_keeping
from helpers import (
    BAD_ROWS, BY_HAND, NO_SORTS, ODD_THINGS, RING, all_rows, before, caught, is_path, long_ring, one_after_the_other,
    part_of, random_rule, rule_of_row, some_cases, some_rules, telling_rules, three_groups,
)

COUNTED = ("insertion", "bubbling", "parting")
FIRST = ("insertion", "bubbling", "parting", "choosing")
NOT_COUNTED = NO_SORTS + ["halving", "merging", "choosing", "heaping"]
NOT_FIRST = NO_SORTS + ["halving", "merging", "heaping"]
TIES = [[0] * 12 for _ in range(12)]


def inputs_by_hand(rule, sort):
    """How many inputs each result has, from all inputs."""
    return collections.Counter(tuple(BY_HAND[sort](rule, row)) for row in all_rows(len(rule)))


def count_apart(rule, row, sort):
    """The number of inputs by the words of point [26], from the row itself."""
    if not row:
        return 1
    if sort == "parting":
        many = 0
        for place, pivot in enumerate(row):
            ahead, behind = row[:place], row[place + 1:]
            if all(before(rule, x, pivot) for x in ahead) and not any(before(rule, x, pivot) for x in behind):
                ways = math.factorial(len(row) - 1) // math.factorial(len(ahead)) // math.factorial(len(behind))
                many += ways * count_apart(rule, ahead, sort) * count_apart(rule, behind, sort)
        return many
    if not is_path(rule, row):
        return 0
    lasts = [place for place, x in enumerate(row) if all(before(rule, x, y) for y in row[place + 1:])]
    return sum(count_apart(rule, row[:place] + row[place + 1:], sort) for place in lasts)


def first_by_parting(rule):
    """The items that parting can put first, by the words of point [25]."""
    items = range(len(rule))
    found = set()
    todo = [[item] for item in items]
    while todo:
        chain = todo.pop()
        longer = [chain + [x] for x in items if all(before(rule, x, y) for y in chain)]
        if not longer:
            found.add(chain[-1])
        todo.extend(longer)
    return sorted(found)


class CountInputs(unittest.TestCase):
    def test_the_example(self):
        rows = [[0, 1, 2], [1, 2, 0], [0, 2, 1]]
        self.assertEqual([count_inputs(RING, row, "insertion") for row in rows], [2, 2, 0])

    def test_few_items(self):
        for sort in COUNTED:
            self.assertEqual(count_inputs([], [], sort), 1)
            self.assertEqual(count_inputs([[0]], [0], sort), 1)
            self.assertEqual(count_inputs([[0, 0], [0, 0]], [1, 0], sort), 1)
            self.assertEqual(count_inputs([[0, -1], [1, 0]], [0, 1], sort), 2)
            self.assertEqual(count_inputs([[0, -1], [1, 0]], [1, 0], sort), 0)

    def test_up_to_five_items_against_all_inputs(self):
        for rule in some_rules(3, 0) + some_rules(4, 0)[33::4] + some_rules(5, 6)[-30:]:
            for sort in COUNTED:
                expected = inputs_by_hand(rule, sort)
                total = 0
                for row in all_rows(len(rule)):
                    many = count_inputs(rule, row, sort)
                    self.assertIs(many.__class__, int)
                    self.assertEqual(many, expected[tuple(row)], (rule, row, sort))
                    total += many
                self.assertEqual(total, math.factorial(len(rule)))

    def test_six_items(self):
        for seed, answers in enumerate(((-1, 0, 1), (-1, 1), (-1, -1, -1, 0, 1))):
            rule = random_rule(6, seed, answers)
            for sort in COUNTED:
                for row, many in inputs_by_hand(rule, sort).items():
                    self.assertEqual(count_inputs(rule, list(row), sort), many, (rule, row, sort))

    def test_up_to_nine_items_against_the_text(self):
        for rule, row in some_cases(9, 2, 2):
            if len(rule) > 5:
                for sort in COUNTED:
                    result = BY_HAND[sort](rule, row)
                    self.assertEqual(count_inputs(rule, result, sort), count_apart(rule, result, sort))
                    self.assertEqual(count_inputs(rule, row, sort), count_apart(rule, row, sort))

    def test_just_the_results_have_inputs(self):
        for rule, row in some_cases(8):
            for sort in COUNTED:
                self.assertGreater(count_inputs(rule, BY_HAND[sort](rule, row), sort), 0)
                some = count_inputs(rule, row, sort) > 0
                self.assertEqual(some, input_for(rule, row, sort)[0] == "input", (rule, row, sort))

    def test_twelve_items(self):
        row = [3, 1, 4, 0, 5, 9, 2, 6, 11, 10, 8, 7]
        started = time.monotonic()
        for sort in COUNTED:
            # In an order, every input leads to the same row; if all tie, just the row itself leads to it.
            self.assertEqual(count_inputs(rule_of_row(row), row, sort), 479001600)
            self.assertEqual(count_inputs(TIES, row, sort), 1)
            self.assertEqual(count_inputs(rule_of_row(row), row[::-1], sort), 0)
        self.assertLess(time.monotonic() - started, 20)

    def test_knots_are_mixed_in_any_way(self):
        # The items of two knots stand in the input in any of 12! / (5! * 7!) ways among one another.
        for seed in range(4):
            one, other = random_rule(5, seed), random_rule(7, seed, (-1, 1))
            rule = one_after_the_other([one, other])
            for sort in COUNTED:
                rows = [BY_HAND[sort](one, list(range(5))), BY_HAND[sort](other, list(range(7)))]
                counts = [count_apart(part, row, sort) for part, row in zip((one, other), rows)]
                row = rows[0] + [item + 5 for item in rows[1]]
                self.assertEqual(count_inputs(rule, row, sort), math.prod(counts) * math.comb(12, 5))

    def test_another_numbering(self):
        row = [4, 2, 0, 3, 1, 5]
        for seed in range(6):
            rule = random_rule(6, seed)
            names = [5, 3, 1, 0, 2, 4]
            for sort in COUNTED:
                result = BY_HAND[sort](rule, row)
                renamed = [names.index(item) for item in result]
                self.assertEqual(count_inputs(part_of(rule, names), renamed, sort), count_inputs(rule, result, sort))

    def test_errors(self):
        for row, place in BAD_ROWS:
            for sort in COUNTED + (None, "heaping"):
                error = caught(InvalidRow, count_inputs, RING, row, sort)
                self.assertEqual(error.place, place)
                self.assertIs(error.place.__class__, place.__class__)
        for sort in NOT_COUNTED:
            for row in all_rows(3):
                self.assertIs(caught(UnknownSort, count_inputs, RING, row, sort).name, sort)
            self.assertIs(caught(UnknownSort, count_inputs, [], [], sort).name, sort)
        self.assertEqual(caught(InvalidRule, count_inputs, [[1]], None, None).item, 0)


class Firsts(unittest.TestCase):
    def check(self, rule, sort, expected):
        """Just these items stand first for some input, and each input that is returned is one."""
        self.assertEqual(firsts(rule, sort), expected, (rule, sort))
        for item in range(len(rule)):
            row = input_with_first(rule, item, sort)
            if item not in expected:
                self.assertIsNone(row, (rule, item, sort))
            else:
                self.assertIs(row.__class__, list)
                self.assertEqual(sorted(row), list(range(len(rule))))
                self.assertEqual(BY_HAND[sort](rule, row)[0], item, (rule, row, sort))

    def test_the_example(self):
        rule = [[0, -1, -1, 1], [1, 0, -1, -1], [1, 1, 0, -1], [-1, 1, 1, 0]]
        self.assertEqual((firsts(rule, "insertion"), firsts(rule, "parting")), ([0, 1, 2, 3], [0, 1, 3]))

    def test_few_items(self):
        for sort in FIRST:
            self.assertEqual(firsts([], sort), [])
            self.check([[0]], sort, [0])
            self.check([[0, 0], [0, 0]], sort, [0, 1])
            self.check([[0, 1], [-1, 0]], sort, [1])
            self.check(RING, sort, [0, 1, 2])
        # Item 1, which is not before 0, ties with 2.
        self.check([[0, -1, 0], [1, 0, 0], [0, 0, 0]], "insertion", [0, 1, 2])
        self.check([[0, -1, 0], [1, 0, 0], [0, 0, 0]], "parting", [0, 2])
        self.check([[0, -1, 0], [1, 0, 0], [0, 0, 0]], "choosing", [0, 2])

    def test_up_to_five_items_against_all_inputs(self):
        for rule in some_rules(5, 12):
            if rule:
                for sort in FIRST:
                    found = {BY_HAND[sort](rule, row)[0] for row in all_rows(len(rule))}
                    self.check(rule, sort, sorted(found))

    def test_up_to_twelve_items(self):
        rules = [rule for rule in some_rules(12, 2) if len(rule) > 5] + telling_rules()
        for rule in rules:
            self.check(rule, "insertion", knots(rule)[0])
            self.check(rule, "bubbling", knots(rule)[0])
            self.check(rule, "parting", first_by_parting(rule))
            kept = [item for item in range(len(rule)) if input_keeping(rule, item) is not None]
            self.check(rule, "choosing", kept)

    def test_without_ties(self):
        for size in range(1, 13):
            rule = random_rule(size, size, (-1, 1))
            self.check(rule, "choosing", knots(rule)[0])

    def test_the_greatest_rules_end_within_seconds(self):
        rules = [TIES, long_ring(), three_groups(3), rule_of_row(list(range(12)))]
        rules.append(one_after_the_other([[[0]], random_rule(11, 5, (-1, 1))]))
        for rule, sort in itertools.product(rules, FIRST):
            started = time.monotonic()
            firsts(rule, sort)
            self.assertLess(time.monotonic() - started, 5)
            started = time.monotonic()
            input_with_first(rule, 11, sort)
            self.assertLess(time.monotonic() - started, 5)

    def test_errors_of_firsts(self):
        for sort in NOT_FIRST:
            for rule in (RING, [], [[0]]):
                self.assertIs(caught(UnknownSort, firsts, rule, sort).name, sort)
        self.assertEqual(caught(InvalidRule, firsts, [[1]], None).item, 0)

    def test_errors_of_input_with_first(self):
        for thing in ODD_THINGS + [-1, 3, 10 ** 5000, [], [0]]:
            for sort in FIRST + ("heaping", None):
                self.assertIs(caught(UnknownItem, input_with_first, RING, thing, sort).item, thing)
        self.assertEqual(caught(UnknownItem, input_with_first, [], 0, "parting").item, 0)
        for sort in NOT_FIRST:
            for item in range(3):
                self.assertIs(caught(UnknownSort, input_with_first, RING, item, sort).name, sort)
        self.assertEqual(caught(InvalidRule, input_with_first, [[1]], None, None).item, 0)


if __name__ == "__main__":
    unittest.main()
