"""Points [4], [12], [13], [14], [17] and [18]: the seven sorts and what is faithful."""

import itertools
import unittest

from knotsorts.errors import InvalidPairs, InvalidRow, InvalidRule, UnknownSort
from knotsorts.knots import knots
from knotsorts.rules import rule_of_pairs
from knotsorts.sorts import asked_pairs, is_faithful, sorted_row
from helpers import (
    BAD_ROWS, BY_HAND, FAITHFUL, NO_SORTS, ODD_THINGS, RING, all_rows, all_rules, before, caught, has_ring_of_answers,
    is_path, part_of, rule_of_row, some_cases, without_ties, wrong_of,
)

KNOT_BY_KNOT = ("insertion", "bubbling", "parting", "choosing")
NEAR_ORDER = [[0, -1, -1, -1], [1, 0, -1, 0], [1, 1, 0, -1], [1, 0, 1, 0]]


def stands_right(rule, row, result, one, other):
    """Whether two items stand in a result as a faithful sort puts them if it asks about them."""
    if before(rule, one, other):
        return result.index(one) < result.index(other)
    if before(rule, other, one):
        return result.index(other) < result.index(one)
    return (row.index(one) < row.index(other)) == (result.index(one) < result.index(other))


class Sorting(unittest.TestCase):
    def test_the_examples(self):
        names = ["insertion", "halving", "parting", "choosing", "bubbling", "heaping"]
        self.assertEqual(sorted_row(RING, [2, 1, 0], "merging"), [2, 0, 1])
        self.assertEqual(asked_pairs(RING, [2, 1, 0], "merging"), [(0, 1), (0, 2)])
        expected = [[1, 2, 0], [1, 2, 0], [1, 2, 0], [0, 1, 2], [1, 2, 0], [2, 0, 1]]
        self.assertEqual([sorted_row(RING, [2, 1, 0], sort) for sort in names], expected)
        rule = [[0, -1, -1, 1], [1, 0, 1, -1], [1, -1, 0, 1], [-1, 1, -1, 0]]
        self.assertEqual(sorted_row(rule, [0, 1, 2, 3], "heaping"), [0, 3, 2, 1])

    def test_asked_pairs_written_out(self):
        told = {
            "insertion": [(1, 2), (0, 2)],
            "halving": [(1, 2), (0, 2)],
            "merging": [(0, 1), (0, 2)],
            "parting": [(1, 2), (0, 2)],
            "choosing": [(1, 2), (0, 1), (1, 2)],
            "bubbling": [(1, 2), (0, 2), (2, 1)],
            "heaping": [(0, 1), (0, 2), (1, 0)],
        }
        for sort, pairs in told.items():
            self.assertEqual(asked_pairs(RING, [2, 1, 0], sort), pairs, sort)

    def test_few_items(self):
        for sort in BY_HAND:
            self.assertEqual((sorted_row([], [], sort), asked_pairs([], [], sort)), ([], []))
            self.assertEqual((sorted_row([[0]], [0], sort), asked_pairs([[0]], [0], sort)), ([0], []))
            for rule, result in (([[0, -1], [1, 0]], [0, 1]), ([[0, 1], [-1, 0]], [1, 0])):
                self.assertEqual(sorted_row(rule, [0, 1], sort), result)
                self.assertEqual(sorted_row(rule, [1, 0], sort), result)
            for row in ([0, 1], [1, 0]):
                # Of two items that tie, no sort of two changes the order.
                self.assertEqual(sorted_row([[0, 0], [0, 0]], row, sort), row)
                self.assertEqual(len(asked_pairs([[0, 0], [0, 0]], row, sort)), 1)

    def test_step_by_step(self):
        for rule, row in some_cases(seeds=5, many=6):
            for sort, by_hand in BY_HAND.items():
                asked = []
                result = by_hand(rule, row, asked)
                self.assertEqual(sorted_row(rule, row, sort), result, (rule, row, sort))
                pairs = asked_pairs(rule, row, sort)
                self.assertEqual(pairs, asked, (rule, row, sort))
                self.assertTrue(all(pair.__class__ is tuple for pair in pairs))

    def test_results_are_new_lists(self):
        for size in range(4):
            rule, row = [[0] * size for _ in range(size)], list(range(size))
            for sort in BY_HAND:
                for call in (sorted_row, asked_pairs):
                    told = call(rule, row, sort)
                    self.assertIsNot(told, row)
                    self.assertIsNot(told, call(rule, row, sort))
                    told.append(None)
                    self.assertEqual(row, list(range(size)))

    def test_bubbling_asks_again(self):
        rule = [[0] * 4 for _ in range(4)]
        pairs = [(1, 0), (2, 1), (3, 2), (1, 0), (2, 1), (1, 0)]
        self.assertEqual(asked_pairs(rule, [0, 1, 2, 3], "bubbling"), pairs)

    def test_errors(self):
        for call in (sorted_row, asked_pairs):
            for row, place in BAD_ROWS:
                for sort in ("heaping", None, "none"):
                    error = caught(InvalidRow, call, RING, row, sort)
                    self.assertEqual(error.place, place)
                    self.assertIs(error.place.__class__, place.__class__)
            for sort in NO_SORTS:
                self.assertIs(caught(UnknownSort, call, RING, [0, 1, 2], sort).name, sort)
                self.assertIs(caught(UnknownSort, call, [], [], sort).name, sort)
            self.assertIsNone(caught(InvalidRule, call, None, None, None).item)


class Faithful(unittest.TestCase):
    def test_asked_pairs_stand_right(self):
        for rule, row in some_cases():
            for sort in FAITHFUL:
                result, pairs = sorted_row(rule, row, sort), asked_pairs(rule, row, sort)
                for pair in pairs:
                    self.assertTrue(stands_right(rule, row, result, *pair), (rule, row, sort))

    def test_neighbours_were_asked_about_and_the_result_is_a_path(self):
        for rule, row in some_cases():
            for sort in FAITHFUL:
                result, pairs = sorted_row(rule, row, sort), asked_pairs(rule, row, sort)
                for one, other in zip(result, result[1:]):
                    self.assertTrue((one, other) in pairs or (other, one) in pairs, (rule, row, sort))
                self.assertTrue(is_path(rule, result), (rule, row, sort))

    def test_results_differ_only_within_knots(self):
        for rule, row in some_cases():
            line = knots(rule)
            for sort in FAITHFUL:
                result = sorted_row(rule, row, sort)
                for knot in line:
                    self.assertEqual(sorted(result[:len(knot)]), knot, (rule, row, sort))
                    result = result[len(knot):]

    def test_no_other_row_has_all_asked_pairs_right(self):
        for rule, row in some_cases(5):
            for sort in FAITHFUL:
                pairs = asked_pairs(rule, row, sort)
                fit = [other for other in all_rows(len(rule))
                       if all(stands_right(rule, row, other, *pair) for pair in pairs)]
                self.assertEqual(fit, [sorted_row(rule, row, sort)], (rule, row, sort))

    def test_the_rule_of_the_result(self):
        for rule, row in some_cases():
            for sort in FAITHFUL:
                result = sorted_row(rule, row, sort)
                instead = rule_of_row(result)
                self.assertEqual(sorted_row(instead, row, sort), result)
                self.assertEqual(asked_pairs(instead, row, sort), asked_pairs(rule, row, sort))

    def test_ties_decided_by_the_input(self):
        for rule, row in some_cases():
            instead = without_ties(rule, row)
            for sort in FAITHFUL:
                self.assertEqual(sorted_row(instead, row, sort), sorted_row(rule, row, sort))
                self.assertEqual(asked_pairs(instead, row, sort), asked_pairs(rule, row, sort))

    def test_heaping_is_not_faithful(self):
        rule = [[0, -1, -1], [1, 0, 0], [1, 0, 0]]
        row, result = [0, 1, 2], [0, 2, 1]
        self.assertEqual(sorted_row(rule, row, "heaping"), result)
        pairs = asked_pairs(rule, row, "heaping")
        # The items 1 and 2 tie, and about both was asked.
        self.assertEqual(pairs, [(2, 1), (1, 0), (1, 2)])
        self.assertFalse(all(stands_right(rule, row, result, *pair) for pair in pairs))
        # The neighbours 0 and 2 were not asked about.
        self.assertFalse({(0, 2), (2, 0)} & set(pairs))
        self.assertFalse(is_faithful(rule, row, result, pairs))
        self.assertNotEqual(asked_pairs(rule_of_row(result), row, "heaping"), pairs)
        self.assertNotEqual(sorted_row(without_ties(rule, row), row, "heaping"), result)

    def test_heaping_puts_asked_pairs_wrong_and_leads_to_no_path(self):
        row, result = [0, 2, 1, 3], [0, 3, 1, 2]
        self.assertEqual(sorted_row(NEAR_ORDER, row, "heaping"), result)
        # It was asked, and item 2 is before 3.
        self.assertIn((3, 2), asked_pairs(NEAR_ORDER, row, "heaping"))
        self.assertTrue(before(NEAR_ORDER, 2, 3))
        rule = [[0, -1, 0], [1, 0, -1], [0, 1, 0]]
        self.assertEqual(sorted_row(rule, [1, 2, 0], "heaping"), [1, 0, 2])
        self.assertFalse(is_path(rule, [1, 0, 2]))

    def test_heaping_asks_other_pairs_without_ties(self):
        row = [0, 1, 2, 3]
        instead = without_ties(NEAR_ORDER, row)
        self.assertNotEqual(asked_pairs(instead, row, "heaping"), asked_pairs(NEAR_ORDER, row, "heaping"))


class IsFaithful(unittest.TestCase):
    def test_faithful_sorts(self):
        for rule, row in some_cases():
            for sort in FAITHFUL:
                result, pairs = sorted_row(rule, row, sort), asked_pairs(rule, row, sort)
                self.assertIs(is_faithful(rule, row, result, pairs), True)
                turned = [(other, one) for one, other in reversed(pairs)]
                self.assertIs(is_faithful(rule, row, result, turned), True)
                self.assertIs(is_faithful(rule, row, result, pairs + turned), True)

    def test_against_the_text(self):
        seen = set()
        for number, (rule, row) in enumerate(some_cases(6)):
            result = sorted_row(rule, row, list(BY_HAND)[number % 7])
            if number % 3 == 0:
                result = result[::-1]
            every = list(itertools.permutations(range(len(rule)), 2))
            pairs = every[number % 2::2] if number % 5 else asked_pairs(rule, row, "heaping")
            right = all(stands_right(rule, row, result, *pair) for pair in pairs)
            neighbours = all({(x, y), (y, x)} & set(pairs) for x, y in zip(result, result[1:]))
            self.assertIs(is_faithful(rule, row, result, pairs), right and neighbours, (rule, row, result, pairs))
            seen.add((right, neighbours))
        self.assertEqual(len(seen), 4)

    def test_a_pair_that_stands_wrong(self):
        order = rule_of_row([0, 1, 2])
        self.assertIs(is_faithful(order, [2, 1, 0], [0, 1, 2], [(0, 1), (1, 2)]), True)
        self.assertIs(is_faithful(order, [0, 1, 2], [0, 2, 1], [(0, 2), (2, 1)]), False)
        self.assertIs(is_faithful(order, [0, 1, 2], [0, 2, 1], [(0, 2), (1, 2)]), False)
        # Not only neighbours count: in a ring, the last one is before the first one.
        self.assertIs(is_faithful(RING, [0, 1, 2], [0, 1, 2], [(0, 1), (1, 2)]), True)
        self.assertIs(is_faithful(RING, [0, 1, 2], [0, 1, 2], [(0, 1), (1, 2), (0, 2)]), False)

    def test_a_tie_that_stands_otherwise_than_in_the_input(self):
        ties = [[0] * 3 for _ in range(3)]
        self.assertIs(is_faithful(ties, [2, 0, 1], [2, 0, 1], [(2, 0), (0, 1)]), True)
        self.assertIs(is_faithful(ties, [2, 0, 1], [0, 1, 2], [(2, 1), (0, 1)]), False)
        self.assertIs(is_faithful(ties, [2, 0, 1], [0, 1, 2], [(1, 2), (0, 1)]), False)

    def test_neighbours_about_which_was_not_asked(self):
        order = rule_of_row([0, 1, 2])
        for pairs in ([], [(0, 1)], [(2, 1)], [(0, 1), (0, 2)], [(0, 2), (1, 2)]):
            self.assertIs(is_faithful(order, [0, 1, 2], [0, 1, 2], pairs), False)
        for pairs in ([(1, 0), (2, 1)], [(0, 1), (2, 1)], [(1, 2), (1, 0), (1, 2)], [(0, 2), (0, 1), (2, 1)]):
            self.assertIs(is_faithful(order, [0, 1, 2], [0, 1, 2], pairs), True)

    def test_few_items(self):
        self.assertIs(is_faithful([], [], [], []), True)
        self.assertIs(is_faithful([[0]], [0], [0], []), True)
        self.assertIs(is_faithful([[0, 0], [0, 0]], [1, 0], [1, 0], [(0, 1)]), True)
        self.assertIs(is_faithful([[0, 0], [0, 0]], [1, 0], [1, 0], []), False)

    def test_many_pairs(self):
        order = rule_of_row(list(range(12)))
        pairs = [(x, y) for x in range(12) for y in range(12) if x != y]
        self.assertIs(is_faithful(order, list(range(11, -1, -1)), list(range(12)), pairs + pairs[:68]), True)

    def test_rows(self):
        for row, place in BAD_ROWS:
            for result, pairs in (([0, 1, 2], []), (None, []), ([5], None)):
                error = caught(InvalidRow, is_faithful, RING, row, result, pairs)
                self.assertEqual(error.place, place)
                self.assertIs(error.place.__class__, place.__class__)
            for pairs in ([], None, [None], [(0, 0)]):
                error = caught(InvalidRow, is_faithful, RING, [2, 0, 1], row, pairs)
                self.assertEqual(error.place, place)
                self.assertIs(error.place.__class__, place.__class__)
        # The input is looked at before the result.
        self.assertEqual(caught(InvalidRow, is_faithful, RING, [0, 1, 1], [0, 0, 1], []).place, 2)

    def test_pairs(self):
        rows = [[0, 1, 2], [0, 1, 2]]
        for pairs in ODD_THINGS + [0, ((0, 1),), "01", (0, 1)]:
            self.assertIsNone(caught(InvalidPairs, is_faithful, RING, *rows, pairs).index)
        wrong = ODD_THINGS + [
            [0, 1], (0,), (0, 1, 2), (0, 0), (1, 1), (0, 3), (3, 0), (-1, 0), (0, -1), (True, 0), (0, True), (2, False),
            (None, 1), ("0", "1"), ([0], 1), 1, 0, [], (0.0, 1), (1, 10 ** 5000), ((0, 1), 2), {0, 1},
        ]
        wrong.remove((0, 1))
        for thing in wrong:
            for pairs, index in (([thing], 0), ([(0, 1), (1, 2), thing], 2), ([(1, 0), thing, thing], 1)):
                error = caught(InvalidPairs, is_faithful, RING, *rows, pairs)
                self.assertEqual(error.index, index, thing)
                self.assertIs(error.index.__class__, int)
        # Complete before the answer: the first pair stands wrong already.
        self.assertEqual(caught(InvalidPairs, is_faithful, RING, *rows, [(0, 2), (1, 1)]).index, 1)
        self.assertEqual(caught(InvalidPairs, is_faithful, [], [], [], [(0, 1)]).index, 0)

    def test_the_rule_comes_first(self):
        self.assertEqual(caught(InvalidRule, is_faithful, [[1]], None, None, None).item, 0)


class KnotByKnot(unittest.TestCase):
    def by_knots(self, rule, row, sort):
        result = []
        for knot in knots(rule):
            items = [item for item in row if item in knot]
            # The items of the knot, numbered anew as they stand in the input.
            part = sorted_row(part_of(rule, items), list(range(len(items))), sort)
            result += [items[number] for number in part]
        return result

    def test_four_sorts(self):
        for rule, row in some_cases():
            for sort in KNOT_BY_KNOT:
                self.assertEqual(sorted_row(rule, row, sort), self.by_knots(rule, row, sort), (rule, row, sort))

    def test_not_halving_and_merging(self):
        self.assertNotEqual(sorted_row(NEAR_ORDER, [0, 2, 3, 1], "halving"), [0, 2, 3, 1])
        self.assertEqual(self.by_knots(NEAR_ORDER, [0, 2, 3, 1], "halving"), [0, 2, 3, 1])
        self.assertNotEqual(sorted_row(NEAR_ORDER, [2, 3, 0, 1], "merging"), [0, 2, 3, 1])
        self.assertEqual(self.by_knots(NEAR_ORDER, [2, 3, 0, 1], "merging"), [0, 2, 3, 1])


class RowsThatStay(unittest.TestCase):
    def test_insertion_and_bubbling_leave_a_path(self):
        for rule, row in some_cases():
            for sort in ("insertion", "bubbling"):
                self.assertEqual(sorted_row(rule, row, sort) == row, is_path(rule, row), (rule, row))

    def test_bubbling_is_insertion(self):
        for rule, row in some_cases():
            self.assertEqual(sorted_row(rule, row, "bubbling"), sorted_row(rule, row, "insertion"))

    def test_choosing_and_parting_leave_a_row_without_wrong_pairs(self):
        stayed = 0
        for rule, row in some_cases():
            for sort in ("choosing", "parting"):
                stays = sorted_row(rule, row, sort) == row
                self.assertEqual(stays, not wrong_of(rule, row), (rule, row, sort))
                stayed += stays
        self.assertGreater(stayed, 100)

    def test_again_and_again(self):
        for rule, row in some_cases(9, many=3):
            for sort in ("choosing", "parting"):
                most = len(rule) * (len(rule) - 1) // 2
                seen, now = [], row
                while now not in seen:
                    seen.append(now)
                    now = sorted_row(rule, now, sort)
                stays = now == seen[-1]
                self.assertEqual(stays, not has_ring_of_answers(rule), (rule, row, sort))
                if stays:
                    self.assertLessEqual(len(seen) - 1, most)
                    self.assertEqual(wrong_of(rule, now), [])

    def test_a_ring_turns_for_ever(self):
        for sort in ("choosing", "parting"):
            for row in all_rows(3):
                for _ in range(9):
                    later = sorted_row(RING, row, sort)
                    self.assertNotEqual(later, row)
                    row = later

    def test_all_rules_of_three_items(self):
        for rule in all_rules(3):
            for row in all_rows(3):
                for sort in ("choosing", "parting"):
                    again = sorted_row(rule, row, sort)
                    for _ in range(3):
                        again = sorted_row(rule, again, sort)
                    self.assertEqual(again == sorted_row(rule, again, sort), not has_ring_of_answers(rule))

    def test_a_chain_whose_ends_tie_stays(self):
        rule = rule_of_pairs(3, [(0, 1), (1, 2)])
        self.assertEqual(sorted_row(rule, [2, 0, 1], "parting"), [1, 2, 0])
        self.assertEqual(sorted_row(rule, [1, 2, 0], "parting"), [0, 1, 2])
        self.assertEqual(sorted_row(rule, [0, 1, 2], "parting"), [0, 1, 2])


if __name__ == "__main__":
    unittest.main()
