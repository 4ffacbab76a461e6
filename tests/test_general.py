"""Points [2] and [3], and InvalidRule: what holds for all functions and classes alike."""

import copy
import inspect
import itertools
import time
import unittest

from knotsorts.counting import count_inputs, firsts, input_with_first
from knotsorts.errors import InvalidRule
from knotsorts.kinds import KeptRow
from knotsorts.knots import knots, ring, triangles
from knotsorts.paths import count_paths, each_path, path_with, wrong_place
from knotsorts.results import count_results, each_result, input_for, is_bar
from knotsorts.rules import partial_order, rule_of_ballots, rule_of_numbers, rule_of_pairs, weak_order
from knotsorts.scanning import input_keeping, scan
from knotsorts.searching import found_at, found_items, looked_at
from knotsorts.sorts import asked_pairs, is_faithful, sorted_row
from knotsorts.sure import covers, input_with, sure_pairs
from knotsorts.text import format_rule, parse_rule
from knotsorts.trees import SearchTree
from knotsorts.wrong import fewest_wrong, most_wrong, wrong_pairs
from helpers import (
    BY_HAND, ODD_THINGS, RING, answer, caught, lists_within, long_ring, one_after_the_other, random_rule, rule_of_row,
    some_rules, three_groups, tuples_of,
)

COUNTED = ("insertion", "bubbling", "parting")
FIRST = ("insertion", "bubbling", "parting", "choosing")

# Each function with the file in which it is, the names of its parameters, those behind the * with what stands for
# them otherwise, and some arguments.
CALLS = [
    (rule_of_pairs, "rules", ["size", "pairs"], {}, [4, [(0, 1), (3, 2)]]),
    (rule_of_numbers, "rules", ["numbers"], {"tolerance": 0}, [[5, 3, 4, 4]]),
    (rule_of_ballots, "rules", ["size", "ballots"], {}, [3, [[0, 1, 2], [1, 2, 0], [2, 0, 1]]]),
    (partial_order, "rules", ["rule"], {}, [RING]),
    (weak_order, "rules", ["rule"], {}, [RING]),
    (knots, "knots", ["rule"], {}, [random_rule(6, 1)]),
    (ring, "knots", ["rule", "item"], {}, [[[0] * 5 for _ in range(5)], 3]),
    (triangles, "knots", ["rule"], {}, [random_rule(7, 2)]),
    (wrong_place, "paths", ["rule", "row"], {}, [RING, [2, 1, 0]]),
    (path_with, "paths", ["rule", "first", "second"], {}, [random_rule(6, 1), 2, 5]),
    (count_paths, "paths", ["rule"], {}, [random_rule(6, 1)]),
    (each_path, "paths", ["rule"], {}, [one_after_the_other([RING, RING])]),
    (covers, "sure", ["rule", "one", "other"], {}, [[[0, -1], [1, 0]], 0, 1]),
    (sure_pairs, "sure", ["rule"], {"sort": "insertion"}, [one_after_the_other([RING, RING])]),
    (input_with, "sure", ["rule", "first", "second"], {"sort": "insertion"}, [random_rule(6, 1), 2, 5]),
    (wrong_pairs, "wrong", ["rule", "row"], {}, [RING, [2, 1, 0]]),
    (fewest_wrong, "wrong", ["rule"], {}, [random_rule(6, 1)]),
    (most_wrong, "wrong", ["rule"], {}, [random_rule(6, 1)]),
    (scan, "scanning", ["rule", "items"], {}, [RING, [2, 0, 1, 1, 0]]),
    (input_keeping, "scanning", ["rule", "item"], {}, [RING, 2]),
    (is_faithful, "sorts", ["rule", "row", "result", "pairs"], {}, [RING, [2, 1, 0], [1, 2, 0], [(1, 2), (0, 2)]]),
    (looked_at, "searching", ["rule", "row", "item"], {}, [random_rule(5, 1), [4, 2, 0, 1, 3], 3]),
    (found_at, "searching", ["rule", "row", "item"], {}, [random_rule(5, 1), [4, 2, 0, 1, 3], 3]),
    (found_items, "searching", ["rule", "row"], {}, [random_rule(5, 1), [4, 2, 0, 1, 3]]),
    (format_rule, "text", ["rule"], {}, [random_rule(6, 1)]),
    (parse_rule, "text", ["text"], {}, ["3\n0 < 1\n0 > 2\n1 < 2"]),
    (SearchTree, "trees", ["rule"], {}, [RING]),
    (KeptRow, "kinds", ["rule"], {}, [RING]),
]
# Those with a sort that stands among the parameters, once for each of its names.
for sort in BY_HAND:
    CALLS.append((sorted_row, "sorts", ["rule", "row", "sort"], {}, [RING, [2, 1, 0], sort]))
    CALLS.append((asked_pairs, "sorts", ["rule", "row", "sort"], {}, [RING, [2, 1, 0], sort]))
    CALLS.append((each_result, "results", ["rule", "sort"], {}, [random_rule(4, 1), sort]))
    CALLS.append((count_results, "results", ["rule", "sort"], {}, [random_rule(4, 1), sort]))
for sort in FIRST:
    CALLS.append((firsts, "counting", ["rule", "sort"], {}, [RING, sort]))
    CALLS.append((input_with_first, "counting", ["rule", "item", "sort"], {}, [RING, 2, sort]))
for sort in COUNTED:
    # In the second rule, the last two items of the row are a bar.
    for rule in ([[0] * 5 for _ in range(5)], rule_of_row([4, 2, 0, 3, 1])):
        row = [4, 2, 0, 1, 3]
        CALLS.append((input_for, "results", ["rule", "row", "sort"], {}, [rule, row, sort]))
        CALLS.append((is_bar, "results", ["rule", "row", "sort", "first", "last"], {}, [rule, row, sort, 3, 5]))
        CALLS.append((count_inputs, "counting", ["rule", "row", "sort"], {}, [rule, row, sort]))

# What stands for a row of all items, and for the same pairs of all neighbours in it.
ROW, PAIRS = "a row", "its pairs"

# Each function with a rule, with what else it is passed in a call that is right, and in one that is wrong.
WITH_RULE = [
    (partial_order, [], [], {}),
    (weak_order, [], [], {}),
    (knots, [], [], {}),
    (triangles, [], [], {}),
    (ring, [0], [None], {}),
    (wrong_place, [ROW], [None], {}),
    (path_with, [0, 0], [None, -1], {}),
    (count_paths, [], [], {}),
    (each_path, [], [], {}),
    (covers, [0, 0], [None, -1], {}),
    (sure_pairs, [], [], {"sort": None}),
    (input_with, [0, 0], [None, -1], {"sort": "halving"}),
    (wrong_pairs, [ROW], [None], {}),
    (fewest_wrong, [], [], {}),
    (most_wrong, [], [], {}),
    (scan, [[0]], [[]], {}),
    (input_keeping, [0], [None], {}),
    (sorted_row, [ROW, "heaping"], [None, None], {}),
    (asked_pairs, [ROW, "halving"], [[0, 0], "none"], {}),
    (is_faithful, [ROW, ROW, PAIRS], [None, None, None], {}),
    (input_for, [ROW, "bubbling"], [None, None], {}),
    (is_bar, [ROW, "parting", 0, 1], [None, None, None, None], {}),
    (each_result, ["merging"], [None], {}),
    (count_results, ["choosing"], [[]], {}),
    (count_inputs, [ROW, "parting"], [None, "merging"], {}),
    (firsts, ["choosing"], ["merging"], {}),
    (input_with_first, [0, "choosing"], [None, None], {}),
    (looked_at, [ROW, 0], [None, None], {}),
    (found_at, [ROW, 0], [None, None], {}),
    (found_items, [ROW], [None], {}),
    (format_rule, [], [], {}),
    (SearchTree, [], [], {}),
    (KeptRow, [], [], {}),
]


def filled(args, size):
    """Arguments, with a row of this size where they ask for one."""
    row = list(range(size))
    stands_for = {ROW: row, PAIRS: list(zip(row, row[1:]))}
    return [list(stands_for[thing]) if thing in (ROW, PAIRS) else thing for thing in args]


def shown(thing):
    """What a call told: of an object what can be read of it."""
    if isinstance(thing, SearchTree):
        return (thing.row, thing.lost, thing.shape, len(thing))
    if isinstance(thing, KeptRow):
        return (thing.row, thing.rule, len(thing))
    return thing


def told_by(call, *args, **more):
    return shown(answer(call, *args, **more))

# The calls, each once for each of the three sorts of those that have a sort.
SORTED_CALLS = [(call, args, {}) for call, _, _, _, args in CALLS] + [
    (call, args, {"sort": sort})
    for call, _, _, more, args in CALLS if "sort" in more for sort in ("parting", "choosing")
]


class InvalidRules(unittest.TestCase):
    def check(self, rule, item):
        for call, right, wrong, named in WITH_RULE:
            for more, by_name in ((filled(right, 1), {}), (wrong, named)):
                error = caught(InvalidRule, answer, call, rule, *more, **by_name)
                self.assertEqual(error.item, item, (call, rule))
                self.assertIs(error.item.__class__, item.__class__)

    def test_no_list_of_lists(self):
        for thing in ODD_THINGS:
            self.check(thing, None)
            self.check([thing], None)
            self.check([[0, 0], thing], None)
        self.check(7, None)
        self.check(((0,),), None)
        self.check([(0,)], None)
        self.check([0], None)
        # Before anything else that is wrong.
        self.check([[5], [True, 2], (0, 0)], None)

    def test_lists_too_short_or_too_long(self):
        self.check([[]], 0)
        self.check([[0, 0]], 0)
        self.check([[0, 0], [0]], 1)
        self.check([[0, 0], [0, 0, 0]], 1)
        self.check([[0, 0, 0], [0, 0, 0]], 0)
        self.check([[0, 0, 0], [0, 0, 0], []], 2)

    def test_things_that_are_no_answers(self):
        for thing in ODD_THINGS + [2, -2, 10 ** 30, -1.0, [], [0]]:
            self.check([[thing]], 0)
            self.check([[0, 0], [0, thing]], 1)
            self.check([[0, 0, 0], [0, 0, thing], [thing, 0, 0]], 1)

    def test_true_and_false_are_no_answers(self):
        self.check([[0, True], [-1, 0]], 0)
        self.check([[0, -1], [True, 0]], 1)
        self.check([[0, -1], [1, False]], 1)

    def test_lengths_and_things_are_looked_at_item_by_item(self):
        self.check([[0, 2], [0]], 0)
        self.check([[0, 0, 0], [0, 0], [2, 0, 0]], 1)
        self.check([[0, 0, 0], [0, 0, 2], [0, 0]], 1)

    def test_answers_that_are_not_opposite(self):
        self.check([[0, -1], [-1, 0]], 0)
        self.check([[0, 1], [1, 0]], 0)
        self.check([[0, 0], [1, 0]], 0)
        self.check([[0, -1], [0, 0]], 0)
        self.check([[0, 0, 0], [0, 0, 1], [0, 1, 0]], 1)
        self.check([[0, 0, 1], [0, 0, 0], [1, 0, 0]], 0)

    def test_answers_about_the_item_itself(self):
        self.check([[1]], 0)
        self.check([[-1]], 0)
        self.check([[0, 0], [0, 1]], 1)
        self.check([[0, 0, 0], [0, 0, 0], [0, 0, -1]], 2)
        self.check([[0, 0, 0], [0, 1, -1], [0, -1, 0]], 1)

    def test_opposites_come_after_lengths_and_things(self):
        self.check([[1, -1], [-1, 2]], 1)
        self.check([[0, -1, 0], [-1, 0, 0], [0, 0]], 2)
        self.check([[0, -1, 0], [-1, 0, 0], [0, 0, True]], 2)

    def test_rules_are_taken(self):
        for rule in some_rules(5)[::3]:
            for call, right, _, _ in WITH_RULE:
                # The rule of no items has no item 0 and nothing to scan.
                if rule or (0 not in right and [0] not in right) or call == is_bar:
                    answer(call, rule, *filled(right, len(rule)))

    def test_a_list_that_stands_for_several_items(self):
        row = [0, 0]
        self.assertEqual(knots([row, row]), [[0, 1]])


class GeneralRules(unittest.TestCase):
    def test_all_functions_are_looked_at(self):
        with_rule = {call for call, _, names, _, _ in CALLS if names[0] == "rule"}
        self.assertEqual({call for call, _, _, _ in WITH_RULE}, with_rule)

    def test_by_position_and_by_name(self):
        for call, _, names, more, args in CALLS:
            expected = told_by(call, *args)
            for many in range(len(args)):
                by_name = dict(zip(reversed(names[many:]), reversed(args[many:])))
                self.assertEqual(told_by(call, *args[:many], **by_name), expected, call)
            self.assertEqual(told_by(call, *args, **more), expected, call)

    def test_the_parameters_are_those_of_the_interface(self):
        for call, _, names, more, _ in CALLS:
            told = inspect.signature(call).parameters
            self.assertEqual(list(told), names + list(more))
            for name in names:
                self.assertEqual(told[name].kind, inspect.Parameter.POSITIONAL_OR_KEYWORD)
                self.assertIs(told[name].default, inspect.Parameter.empty)
            for name, value in more.items():
                self.assertEqual(told[name].kind, inspect.Parameter.KEYWORD_ONLY)
                self.assertEqual(told[name].default, value)

    def test_arguments_are_not_changed(self):
        for call, args, more in SORTED_CALLS:
            earlier = copy.deepcopy(args)
            answer(call, *args, **more)
            self.assertEqual(tuples_of(args), tuples_of(earlier), call)

    def test_arguments_are_not_changed_by_a_call_that_fails(self):
        calls = [(rule_of_pairs, [3, [(0, 1), (1, 0)]]), (each_path, [[[0] * 7 for _ in range(7)]])]
        calls += [(call, [RING, [1, 0, 0]]) for call in (wrong_place, wrong_pairs, found_items)]
        calls += [(call, [RING, [1, 0, 2], "none"]) for call in (sorted_row, asked_pairs, input_for, count_inputs)]
        calls += [(is_bar, [RING, [1, 0, 2], "heaping", 0, 2]), (found_at, [RING, [1, 0, 2], 3])]
        calls += [(is_faithful, [RING, [1, 0, 2], [2, 1, 0], [(0, 1), (1, 1)]]), (looked_at, [RING, [1, 0, 2], 3])]
        calls += [(each_result, [[[0] * 7 for _ in range(7)], "parting"]), (firsts, [RING, "halving"])]
        calls += [(KeptRow, [[[0, 1], [1, 0]]]), (SearchTree, [[[0, 1], [1, 0]]])]
        calls += [(scan, [RING, [1, 0, 3]]), (path_with, [RING, 0, 3]), (input_with, [RING, 0, 3])]
        for call, args in calls:
            earlier = copy.deepcopy(args)
            with self.assertRaises((ValueError, LookupError)):
                answer(call, *args)
            self.assertEqual(args, earlier, call)

    def test_lists_are_new(self):
        for call, args, more in SORTED_CALLS:
            first, second = told_by(call, *args, **more), told_by(call, *args, **more)
            self.assertEqual(first, second)
            self.assertIs(first.__class__, second.__class__)
            found = [id(part) for part in lists_within(first) + lists_within(second) + lists_within(args)]
            self.assertEqual(len(found), len(set(found)), call)

    def test_lists_are_new_for_the_rule_of_no_items(self):
        for call, right, _, _ in WITH_RULE:
            if 0 not in right and [0] not in right:
                args = filled(right, 0)
                first, second = told_by(call, [], *args), told_by(call, [], *args)
                self.assertEqual(first, second)
                found = [id(part) for part in lists_within(first) + lists_within(second)]
                self.assertEqual(len(found), len(set(found)), call)

    def test_later_changes_have_no_effect(self):
        for call, args, more in SORTED_CALLS:
            expected = tuples_of(told_by(call, *args, **more))
            for part in lists_within(told_by(call, *args, **more)):
                part.append(None)
            self.assertEqual(tuples_of(told_by(call, *args, **more)), expected)

    def test_they_are_defined_in_their_files(self):
        for call, home, _, _, _ in CALLS:
            self.assertEqual(call.__module__, "knotsorts." + home)


class Bounds(unittest.TestCase):
    def check_seconds(self, call, *args, **more):
        start = time.monotonic()
        answer(call, *args, **more)
        self.assertLess(time.monotonic() - start, 5, call)

    def test_the_greatest_rules_end_within_seconds(self):
        ballots = [list(range(12))] * 30 + [list(range(11, -1, -1))] * 30
        self.check_seconds(rule_of_pairs, 12, [(0, 1)] * 200)
        self.check_seconds(rule_of_ballots, 12, ballots)
        self.check_seconds(rule_of_numbers, [10 ** 20 - 1 - item for item in range(12)])

    def test_the_greatest_calls_end_within_seconds(self):
        row = list(range(12))
        arguments = {path_with: [11, 0], input_with: [11, 0], scan: [row * 5], input_with_first: [11, "choosing"]}
        rules = [[[0] * 12 for _ in range(12)], random_rule(12, 3), random_rule(12, 4, (-1, 1)), three_groups(5)]
        for rule in rules + [one_after_the_other([[[0]], random_rule(11, 5, (-1, 1))])]:
            for call, right, _, named in WITH_RULE:
                if call in (each_path, each_result, count_results):
                    continue
                args = arguments.get(call, filled(right, 12))
                for sort in ("insertion", "parting", "choosing") if named else (None,):
                    self.check_seconds(call, rule, *args, **({"sort": sort} if sort else {}))
            for item in range(12):
                self.check_seconds(input_keeping, rule, item)
            for sort in BY_HAND:
                self.check_seconds(sorted_row, rule, row, sort)
                self.check_seconds(asked_pairs, rule, row, sort)
            for sort in COUNTED:
                self.check_seconds(input_for, rule, row, sort)
                self.check_seconds(count_inputs, rule, sorted_row(rule, row, sort), sort)
            self.check_seconds(is_faithful, rule, row, row[::-1], list(itertools.permutations(row, 2)) + [(0, 1)] * 68)
        ties = [[0] * 6 for _ in range(6)]
        for sort in BY_HAND:
            for rule in (ties, random_rule(6, 1), random_rule(6, 2, (-1, 1))):
                self.check_seconds(each_result, rule, sort)
                self.check_seconds(count_results, rule, sort)
        for rules in ([long_ring()], [RING] * 4, [ties] + [[[0]]] * 6, [[[0]]] * 6 + [ties]):
            self.check_seconds(each_path, one_after_the_other(rules))

    def test_thirteen_items_are_no_error(self):
        rule = [[0] * 13 for _ in range(13)]
        row = list(range(13))
        self.assertEqual(knots(rule), [row])
        self.assertEqual(sorted(ring(rule, 12)), row)
        self.assertEqual((partial_order(rule), weak_order(rule), triangles(rule)), (None, None, []))
        self.assertIsNone(wrong_place(rule, row))
        self.assertEqual(sorted(path_with(rule, 12, 3)), row)
        self.assertEqual(count_paths(rule), 6227020800)
        self.assertEqual((covers(rule, 12, 0), sure_pairs(rule), wrong_pairs(rule, row)), (False, [], []))
        self.assertEqual(sorted(input_with(rule, 12, 3, sort="choosing")), row)
        self.assertEqual((fewest_wrong(rule)[0], most_wrong(rule)[0]), (0, 0))
        self.assertEqual(scan(rule, [12] * 61), [12])
        self.assertEqual(sorted(input_keeping(rule, 12)), row)
        self.assertEqual({tuple(sorted_row(rule, row, sort)) for sort in BY_HAND if sort != "heaping"}, {tuple(row)})
        self.assertEqual([count_inputs(rule, row, sort) for sort in COUNTED], [1, 1, 1])
        self.assertEqual([firsts(rule, sort) for sort in FIRST], [row] * 4)
        self.assertEqual((found_at(rule, row, 12), format_rule(rule)[:2]), (12, "13"))
        tree, kept = SearchTree(rule), KeptRow(rule)
        for item in row:
            tree.insert(item)
            kept.add(item)
        self.assertEqual((tree.row, kept.row), (row, row))


if __name__ == "__main__":
    unittest.main()
