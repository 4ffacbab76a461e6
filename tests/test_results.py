"""Points [14], [15] and [16]: which rows are results, inputs for them, bars, and all results of a sort."""

import inspect
import itertools
import random
import unittest

from knotsorts.errors import InvalidRow, InvalidRule, TooMany, UnknownSort
from knotsorts.results import count_results, each_result, input_for, is_bar
from knotsorts.rules import partial_order, rule_of_pairs
from helpers import (
    BAD_ROWS, BY_HAND, NO_SORTS, ODD_THINGS, RING, all_paths, all_rows, before, caught, is_path, random_rule,
    results_by_hand, some_cases, some_rules, telling_rules, wrong_of,
)

BARRED = ("insertion", "bubbling", "parting")
OTHERS = NO_SORTS + ["halving", "merging", "choosing", "heaping"]
# Item 0 before 1 and 1 before 2, but 0 ties with 2.
CHAIN = [[0, -1, 0], [1, 0, -1], [0, 1, 0]]


def has_pivot(rule, stretch):
    """Whether a stretch has a pivot, looked up for each of its items."""
    return any(
        all(before(rule, item, pivot) for item in stretch[:place])
        and not any(before(rule, item, pivot) for item in stretch[place + 1:])
        for place, pivot in enumerate(stretch)
    )


def bars(rule, row, sort):
    """All bars of a row, by the words of the document."""
    places = itertools.combinations(range(len(row) + 1), 2)
    if sort == "parting":
        return [(first, last) for first, last in places if not has_pivot(rule, row[first:last])]
    return [(first, last) for first, last in places if last == first + 2 and before(rule, row[last - 1], row[first])]


class InputFor(unittest.TestCase):
    def check(self, rule, row, sort):
        """What is returned is an input or a bar of the row. Returns whether it is an input."""
        told = input_for(rule, row, sort)
        self.assertIs(told.__class__, tuple)
        if told[0] == "input":
            self.assertEqual(len(told), 2)
            self.assertIs(told[1].__class__, list)
            self.assertEqual(sorted(told[1]), list(range(len(rule))))
            self.assertEqual(BY_HAND[sort](rule, told[1]), row, (rule, row, sort))
            return True
        self.assertEqual(told[0], "bar")
        self.assertIn(told[1:], bars(rule, row, sort), (rule, row, sort))
        self.assertIs(is_bar(rule, row, sort, *told[1:]), True)
        return False

    def test_the_example(self):
        self.assertEqual(input_for([[0, -1], [1, 0]], [1, 0], "insertion"), ("bar", 0, 2))

    def test_few_items(self):
        for sort in BARRED:
            self.assertEqual(input_for([], [], sort), ("input", []))
            self.assertEqual(input_for([[0]], [0], sort), ("input", [0]))
            self.assertEqual(input_for([[0, 0], [0, 0]], [1, 0], sort), ("input", [1, 0]))
            self.assertEqual(input_for([[0, -1], [1, 0]], [1, 0], sort), ("bar", 0, 2))
            self.assertTrue(self.check([[0, -1], [1, 0]], [0, 1], sort))

    def test_a_path_that_is_no_result_of_parting(self):
        # In [2, 0, 1] the pivot would be item 2, but 1 is before it; 0 or 1, but 2 is not before 0.
        row = [2, 0, 1]
        self.assertEqual(input_for(CHAIN, row, "insertion"), ("input", row))
        self.assertEqual(input_for(CHAIN, row, "parting"), ("bar", 0, 3))

    def test_up_to_five_items_against_all_inputs(self):
        for rule in some_rules(5, 12):
            for sort in BARRED:
                results = results_by_hand(rule, sort)
                for row in all_rows(len(rule)):
                    self.assertEqual(self.check(rule, row, sort), tuple(row) in results, (rule, row, sort))

    def test_exactly_the_paths(self):
        for rule, row in some_cases():
            for sort in ("insertion", "bubbling"):
                self.assertEqual(self.check(rule, row, sort), is_path(rule, row))

    def test_results_of_up_to_twelve_items(self):
        for number, (rule, row) in enumerate(some_cases()):
            for sort in BARRED:
                self.assertTrue(self.check(rule, BY_HAND[sort](rule, row), sort))
                # And a row near to it.
                near = BY_HAND[sort](rule, row)
                if len(near) > 1:
                    place = number % (len(near) - 1)
                    near[place:place + 2] = near[place:place + 2][::-1]
                    self.assertEqual(self.check(rule, near, sort), not bars(rule, near, sort))

    def test_rows_in_which_one_small_stretch_has_no_pivot(self):
        order = [[(x > y) - (x < y) for y in range(12)] for x in range(12)]
        for place in range(11):
            row = list(range(12))
            row[place:place + 2] = [place + 1, place]
            for sort in BARRED:
                self.assertFalse(self.check(order, row, sort))

    def test_it_is_a_new_list(self):
        row = [0, 1, 2]
        for sort in BARRED:
            told = input_for([[0] * 3 for _ in range(3)], row, sort)
            told[1].append(None)
            self.assertEqual(row, [0, 1, 2])

    def test_errors(self):
        for row, place in BAD_ROWS:
            for sort in BARRED + (None, "heaping"):
                error = caught(InvalidRow, input_for, RING, row, sort)
                self.assertEqual(error.place, place)
                self.assertIs(error.place.__class__, place.__class__)
        for sort in OTHERS:
            for row in all_rows(3):
                self.assertIs(caught(UnknownSort, input_for, RING, row, sort).name, sort)
            self.assertIs(caught(UnknownSort, input_for, [], [], sort).name, sort)
        self.assertEqual(caught(InvalidRule, input_for, [[2]], None, None).item, 0)


class IsBar(unittest.TestCase):
    def test_the_example(self):
        self.assertIs(is_bar(RING, [0, 1, 2], "parting", 0, 3), False)

    def test_up_to_five_items_at_all_places(self):
        for rule in some_rules(4, 0) + some_rules(5, 2)[-10:]:
            for row in all_rows(len(rule))[::5]:
                for sort in BARRED:
                    found = bars(rule, row, sort)
                    for first, last in itertools.product(range(-2, len(rule) + 3), repeat=2):
                        told = is_bar(rule, row, sort, first, last)
                        self.assertIs(told, (first, last) in found, (rule, row, sort, first, last))

    def test_up_to_twelve_items_at_all_places(self):
        chance = random.Random(5)
        for rule in telling_rules() + [random_rule(size, size) for size in range(5, 13)]:
            row = chance.sample(range(len(rule)), len(rule))
            for sort in BARRED:
                for these in (row, BY_HAND[sort](rule, row)):
                    found = bars(rule, these, sort)
                    for first, last in itertools.combinations(range(len(rule) + 1), 2):
                        self.assertIs(is_bar(rule, these, sort, first, last), (first, last) in found)

    def test_longer_stretches_are_no_bars_of_insertion(self):
        order = [[0, -1, -1], [1, 0, -1], [1, 1, 0]]
        for sort in ("insertion", "bubbling"):
            self.assertIs(is_bar(order, [2, 1, 0], sort, 0, 2), True)
            self.assertIs(is_bar(order, [2, 1, 0], sort, 1, 3), True)
            self.assertIs(is_bar(order, [2, 1, 0], sort, 0, 3), False)
            self.assertIs(is_bar(order, [2, 1, 0], sort, 0, 1), False)
            # Not neighbours, and before one another all the same.
            self.assertIs(is_bar(RING, [0, 1, 2], sort, 0, 3), False)
            self.assertIs(is_bar([[0, 0], [0, 0]], [1, 0], sort, 0, 2), False)
        self.assertIs(is_bar(order, [2, 1, 0], "parting", 0, 3), True)

    def test_what_is_no_place(self):
        order = [[0, -1], [1, 0]]
        things = ODD_THINGS + [[], [0], [[0, 2]], (0,), (0, (2,)), "2", "02", -1, 3, 10 ** 30, -10 ** 30, 0.0, 2.0]
        for sort in BARRED:
            self.assertIs(is_bar(order, [1, 0], sort, 0, 2), True)
            for thing in things:
                self.assertIs(is_bar(order, [1, 0], sort, thing, 2), False, (sort, thing))
                self.assertIs(is_bar(order, [1, 0], sort, 0, thing), False, (sort, thing))
                self.assertIs(is_bar(order, [1, 0], sort, thing, thing), False, (sort, thing))
            self.assertIs(is_bar(order, [1, 0], sort, 2, 0), False)
            self.assertIs(is_bar(order, [1, 0], sort, 0, 0), False)
            self.assertIs(is_bar([], [], sort, 0, 0), False)
            self.assertIs(is_bar([], [], sort, 0, 1), False)
            # True stands for no 1, and False for no 0.
            ties = [[0, 0, 0], [0, 0, 1], [0, -1, 0]]
            self.assertIs(is_bar(ties, [0, 1, 2], sort, 1, 3), True)
            self.assertIs(is_bar(ties, [0, 1, 2], sort, True, 3), False)
            self.assertIs(is_bar(order, [1, 0], sort, False, 2), False)

    def test_errors(self):
        for row, place in BAD_ROWS:
            for sort in BARRED + (None, "heaping"):
                error = caught(InvalidRow, is_bar, RING, row, sort, None, None)
                self.assertEqual(error.place, place)
        for sort in OTHERS:
            for places in ((0, 2), (None, None), (2, 1)):
                self.assertIs(caught(UnknownSort, is_bar, RING, [0, 1, 2], sort, *places).name, sort)
        self.assertEqual(caught(InvalidRule, is_bar, [[2]], None, None, None, None).item, 0)


class Results(unittest.TestCase):
    def test_the_example(self):
        self.assertEqual([count_results(RING, sort) for sort in ["insertion", "parting"]], [3, 3])

    def test_few_items(self):
        for sort in BY_HAND:
            self.assertEqual((list(each_result([], sort)), count_results([], sort)), ([[]], 1))
            self.assertEqual((list(each_result([[0]], sort)), count_results([[0]], sort)), ([[0]], 1))
            self.assertEqual(list(each_result([[0, 0], [0, 0]], sort)), [[0, 1], [1, 0]])
            self.assertEqual(list(each_result([[0, 1], [-1, 0]], sort)), [[1, 0]])

    def test_up_to_five_items_against_all_inputs(self):
        for rule in some_rules(3, 0) + some_rules(4, 0)[60::5] + some_rules(5, 4)[-20:]:
            for sort in BY_HAND:
                expected = [list(result) for result in results_by_hand(rule, sort)]
                self.assertEqual(list(each_result(rule, sort)), expected, (rule, sort))
                self.assertEqual(count_results(rule, sort), len(expected), (rule, sort))

    def test_six_items(self):
        for seed in range(2):
            rule = random_rule(6, seed)
            for sort in BY_HAND:
                expected = [list(result) for result in results_by_hand(rule, sort)]
                self.assertEqual(list(each_result(rule, sort)), expected, (rule, sort))
                self.assertEqual(count_results(rule, sort), len(expected))

    def test_the_results_of_insertion_are_the_paths(self):
        for rule in some_rules(5, 5)[::3]:
            for sort in ("insertion", "bubbling"):
                self.assertEqual(list(each_result(rule, sort)), all_paths(rule))

    def test_without_ties_the_results_of_choosing_are_the_paths(self):
        for size in range(7):
            for seed in range(4):
                rule = random_rule(size, seed, (-1, 1))
                self.assertEqual(list(each_result(rule, "choosing")), all_paths(rule))

    def test_partial_orders(self):
        many = 0
        for rule in some_rules(5, 40):
            if partial_order(rule) is None:
                many += 1
                right = [row for row in all_rows(len(rule)) if not wrong_of(rule, row)]
                self.assertEqual(list(each_result(rule, "parting")), right)
                self.assertEqual(list(each_result(rule, "choosing")), right)
        self.assertGreater(many, 100)
        rule = rule_of_pairs(6, [(0, 1), (2, 3), (2, 5), (3, 5), (4, 5)])
        right = [row for row in all_rows(6) if not wrong_of(rule, row)]
        self.assertEqual(list(each_result(rule, "parting")), right)
        self.assertEqual(list(each_result(rule, "choosing")), right)

    def test_not_every_path_is_a_result_of_the_others(self):
        rule = [[0, -1, -1, 0], [1, 0, -1, -1], [1, 1, 0, -1], [0, 1, 1, 0]]
        self.assertEqual([count_results(rule, sort) for sort in ("insertion", "halving", "merging")], [5, 3, 2])
        self.assertEqual([count_results(CHAIN, sort) for sort in ("insertion", "parting", "choosing")], [3, 2, 2])

    def test_too_many(self):
        for size in range(7, 14):
            rule = [[0] * size for _ in range(size)]
            for sort in BY_HAND:
                self.assertEqual(caught(TooMany, count_results, rule, sort).count, size)
                self.assertEqual(caught(TooMany, next, each_result(rule, sort)).count, size)
        # Even if there were just one result.
        order = [[(x > y) - (x < y) for y in range(7)] for x in range(7)]
        self.assertEqual(caught(TooMany, count_results, order, "parting").count, 7)

    def test_other_sorts(self):
        for rule in (RING, [], [[0] * 7 for _ in range(7)]):
            for sort in NO_SORTS:
                self.assertIs(caught(UnknownSort, count_results, rule, sort).name, sort)
                self.assertIs(caught(UnknownSort, next, each_result(rule, sort)).name, sort)

    def test_the_rule_comes_first(self):
        for rule, item in ((None, None), ([[1]], 0), ([[0, 0], [1, 0]], 0), ([[2] * 7] * 7, 0)):
            self.assertEqual(caught(InvalidRule, count_results, rule, None).item, item)
            self.assertEqual(caught(InvalidRule, next, each_result(rule, None)).item, item)

    def test_it_is_a_generator(self):
        self.assertTrue(inspect.isgeneratorfunction(each_result))
        # Errors come with the first row.
        for args in ((None, None), (RING, None), ([[0] * 7] * 7, "heaping")):
            results = each_result(*args)
            with self.assertRaises((ValueError, LookupError)):
                next(results)
        one, other = each_result(RING, "parting"), each_result(rule=RING, sort="parting")
        told = [next(one), next(other), next(one), next(other)]
        self.assertEqual(told[::2], told[1::2])

    def test_each_result_is_a_new_list(self):
        ties = [[0] * 4 for _ in range(4)]
        for sort in BY_HAND:
            expected = list(each_result(ties, sort))
            self.assertEqual(len({id(row) for row in expected}), len(expected))
            found = []
            for row in each_result(ties, sort):
                found.append(list(row))
                row.reverse()
                row.append(None)
            self.assertEqual(found, expected)


if __name__ == "__main__":
    unittest.main()
