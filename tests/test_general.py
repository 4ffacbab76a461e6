"""Points [2] and [3], and InvalidRule: what holds for all functions alike."""

import copy
import inspect
import time
import unittest

from knotsorts.errors import InvalidRule
from knotsorts.knots import knots, ring, triangles
from knotsorts.rules import partial_order, rule_of_ballots, rule_of_numbers, rule_of_pairs, weak_order
from helpers import ODD_THINGS, RING, caught, lists_within, random_rule, some_rules, tuples_of

# Each function with a rule, with what else it is passed in a call that is right, and in one that is wrong.
WITH_RULE = [(partial_order, [], []), (weak_order, [], []), (knots, [], []), (triangles, [], []), (ring, [0], [None])]

# Each function with the names of its parameters and some arguments.
CALLS = [
    (rule_of_pairs, ["size", "pairs"], [4, [(0, 1), (3, 2)]]),
    (rule_of_numbers, ["numbers"], [[5, 3, 4, 4]]),
    (rule_of_ballots, ["size", "ballots"], [3, [[0, 1, 2], [1, 2, 0], [2, 0, 1]]]),
    (partial_order, ["rule"], [RING]),
    (weak_order, ["rule"], [RING]),
    (knots, ["rule"], [random_rule(6, 1)]),
    (ring, ["rule", "item"], [[[0] * 5 for _ in range(5)], 3]),
    (triangles, ["rule"], [random_rule(7, 2)]),
]


class InvalidRules(unittest.TestCase):
    def check(self, rule, item):
        for call, right, wrong in WITH_RULE:
            for more in (right, wrong):
                error = caught(InvalidRule, call, rule, *more)
                self.assertEqual(error.item, item, (call, rule))
                self.assertIs(error.item.__class__, item.__class__)

    def test_no_list_of_lists(self):
        for thing in ODD_THINGS:
            self.check(thing, None)
            self.check([thing], None)
            self.check([[0, 0], thing], None)
        self.check(7, None)
        self.check(((0,),), None)
        self.check([(0,)], None)
        self.check([0], None)
        # Before anything else that is wrong.
        self.check([[5], [True, 2], (0, 0)], None)

    def test_lists_too_short_or_too_long(self):
        self.check([[]], 0)
        self.check([[0, 0]], 0)
        self.check([[0, 0], [0]], 1)
        self.check([[0, 0], [0, 0, 0]], 1)
        self.check([[0, 0, 0], [0, 0, 0]], 0)
        self.check([[0, 0, 0], [0, 0, 0], []], 2)

    def test_things_that_are_no_answers(self):
        for thing in ODD_THINGS + [2, -2, 10 ** 30, -1.0, [], [0]]:
            self.check([[thing]], 0)
            self.check([[0, 0], [0, thing]], 1)
            self.check([[0, 0, 0], [0, 0, thing], [thing, 0, 0]], 1)

    def test_true_and_false_are_no_answers(self):
        self.check([[0, True], [-1, 0]], 0)
        self.check([[0, -1], [True, 0]], 1)
        self.check([[0, -1], [1, False]], 1)

    def test_lengths_and_things_are_looked_at_item_by_item(self):
        self.check([[0, 2], [0]], 0)
        self.check([[0, 0, 0], [0, 0], [2, 0, 0]], 1)
        self.check([[0, 0, 0], [0, 0, 2], [0, 0]], 1)

    def test_answers_that_are_not_opposite(self):
        self.check([[0, -1], [-1, 0]], 0)
        self.check([[0, 1], [1, 0]], 0)
        self.check([[0, 0], [1, 0]], 0)
        self.check([[0, -1], [0, 0]], 0)
        self.check([[0, 0, 0], [0, 0, 1], [0, 1, 0]], 1)
        self.check([[0, 0, 1], [0, 0, 0], [1, 0, 0]], 0)

    def test_answers_about_the_item_itself(self):
        self.check([[1]], 0)
        self.check([[-1]], 0)
        self.check([[0, 0], [0, 1]], 1)
        self.check([[0, 0, 0], [0, 0, 0], [0, 0, -1]], 2)
        self.check([[0, 0, 0], [0, 1, -1], [0, -1, 0]], 1)

    def test_opposites_come_after_lengths_and_things(self):
        self.check([[1, -1], [-1, 2]], 1)
        self.check([[0, -1, 0], [-1, 0, 0], [0, 0]], 2)
        self.check([[0, -1, 0], [-1, 0, 0], [0, 0, True]], 2)

    def test_rules_are_taken(self):
        for rule in some_rules():
            for call, right, _ in WITH_RULE:
                if rule or not right:
                    call(rule, *right)

    def test_a_list_that_stands_for_several_items(self):
        row = [0, 0]
        self.assertEqual(knots([row, row]), [[0, 1]])


class GeneralRules(unittest.TestCase):
    def test_all_functions_are_looked_at(self):
        self.assertEqual({call for call, _, _ in WITH_RULE}, {call for call, names, _ in CALLS if names[0] == "rule"})

    def test_by_position_and_by_name(self):
        for call, names, args in CALLS:
            by_name = dict(zip(reversed(names), reversed(args)))
            self.assertEqual(call(*args), call(**by_name), call)

    def test_the_parameters_are_those_of_the_interface(self):
        for call, names, _ in CALLS:
            expected = names + (["tolerance"] if call is rule_of_numbers else [])
            told = inspect.signature(call).parameters
            self.assertEqual(list(told), expected)
            for name in names:
                self.assertEqual(told[name].kind, inspect.Parameter.POSITIONAL_OR_KEYWORD)
                self.assertIs(told[name].default, inspect.Parameter.empty)

    def test_arguments_are_not_changed(self):
        for call, _, args in CALLS:
            earlier = copy.deepcopy(args)
            call(*args)
            self.assertEqual(tuples_of(args), tuples_of(earlier))

    def test_arguments_are_not_changed_by_a_call_that_fails(self):
        args = [3, [(0, 1), (1, 0)]]
        with self.assertRaises(ValueError):
            rule_of_pairs(*args)
        self.assertEqual(args, [3, [(0, 1), (1, 0)]])

    def test_lists_are_new(self):
        for call, _, args in CALLS:
            first, second = call(*args), call(*args)
            self.assertEqual(first, second)
            found = [id(part) for part in lists_within(first) + lists_within(second) + lists_within(args)]
            self.assertEqual(len(found), len(set(found)), call)

    def test_later_changes_have_no_effect(self):
        for call, _, args in CALLS:
            expected = tuples_of(call(*args))
            for part in lists_within(call(*args)):
                part.append(None)
            self.assertEqual(tuples_of(call(*args)), expected)

    def test_they_are_defined_in_their_files(self):
        for call, _, _ in CALLS:
            home = "knotsorts.knots" if call in (knots, ring, triangles) else "knotsorts.rules"
            self.assertEqual(call.__module__, home)


class Bounds(unittest.TestCase):
    def test_the_greatest_calls_end_within_seconds(self):
        ballots = [list(range(12))] * 30 + [list(range(11, -1, -1))] * 30
        calls = [(rule_of_pairs, [12, [(0, 1)] * 200]), (rule_of_ballots, [12, ballots])]
        calls.append((rule_of_numbers, [[10 ** 20 - 1 - item for item in range(12)]]))
        for rule in ([[0] * 12 for _ in range(12)], random_rule(12, 3), random_rule(12, 4, (-1, 1))):
            calls.extend((call, [rule] + more) for call, more, _ in WITH_RULE)
        for call, args in calls:
            start = time.monotonic()
            call(*args)
            self.assertLess(time.monotonic() - start, 5, call)

    def test_thirteen_items_are_no_error(self):
        rule = [[0] * 13 for _ in range(13)]
        self.assertEqual(knots(rule), [list(range(13))])
        self.assertEqual(sorted(ring(rule, 12)), list(range(13)))
        self.assertEqual((partial_order(rule), weak_order(rule), triangles(rule)), (None, None, []))


if __name__ == "__main__":
    unittest.main()
