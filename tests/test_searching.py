"""Point [29]: searching a row by halves."""

import unittest

from knotsorts.errors import InvalidRow, InvalidRule, UnknownItem
from knotsorts.rules import partial_order
from knotsorts.searching import found_at, found_items, looked_at
from helpers import (
    BAD_ROWS, ODD_THINGS, RING, all_rows, before, by_parting, caught, rule_of_row, some_cases, some_rules,
)


def search(rule, row, item):
    """The places that are looked at, and the place at which the item is found or None."""
    looks, low, high = [], 0, len(row)
    while low < high:
        middle = (low + high) // 2
        looks.append(middle)
        if row[middle] == item:
            return looks, middle
        if before(rule, item, row[middle]):
            high = middle
        else:
            low = middle + 1
    return looks, None


def middles(row):
    """The input that names the middles of a row from the top down."""
    if not row:
        return []
    middle = len(row) // 2
    return [row[middle]] + middles(row[:middle]) + middles(row[middle + 1:])


def way_to(place, size):
    """The places that are looked at on the way to a place."""
    looks, low, high = [], 0, size
    while low < high:
        middle = (low + high) // 2
        if middle == place:
            break
        looks.append(middle)
        low, high = (low, middle) if place < middle else (middle + 1, high)
    return looks


class Searching(unittest.TestCase):
    def check(self, rule, row):
        found = []
        for item in range(len(rule)):
            looks, place = search(rule, row, item)
            self.assertEqual(looked_at(rule, row, item), looks, (rule, row, item))
            self.assertEqual(found_at(rule, row, item), place, (rule, row, item))
            if place is not None:
                found.append(item)
        self.assertEqual(found_items(rule, row), found, (rule, row))
        return found

    def test_the_examples(self):
        self.assertEqual((looked_at(RING, [2, 0, 1], 1), found_items(RING, [2, 1, 0])), ([1, 2], [1]))

    def test_few_items(self):
        self.assertEqual(found_items([], []), [])
        self.assertEqual((looked_at([[0]], [0], 0), found_at([[0]], [0], 0), found_items([[0]], [0])), ([0], 0, [0]))
        for row in ([0, 1], [1, 0]):
            # The item at place 1 is looked at first; the other one ties with it, so the search goes right and ends.
            self.assertEqual(found_items([[0, 0], [0, 0]], row), [row[1]])
            self.assertEqual(looked_at([[0, 0], [0, 0]], row, row[0]), [1])
            self.assertIsNone(found_at([[0, 0], [0, 0]], row, row[0]))

    def test_place_0_is_no_none(self):
        self.assertEqual(found_at([[0, -1], [1, 0]], [0, 1], 0), 0)
        self.assertEqual(found_items([[0, -1], [1, 0]], [0, 1]), [0, 1])

    def test_many(self):
        for rule, row in some_cases(seeds=5, many=6):
            self.check(rule, row)

    def test_orders(self):
        for size in range(13):
            row = list(range(size))[::-1]
            self.assertEqual(self.check(rule_of_row(row), row), list(range(size)))

    def test_all_are_found_in_just_the_results_of_parting(self):
        seen = set()
        for rule, row in some_cases():
            for these in (row, by_parting(rule, row), by_parting(rule, middles(row))):
                every = len(found_items(rule, these)) == len(rule)
                self.assertEqual(every, by_parting(rule, middles(these)) == these, (rule, these))
                seen.add(every)
        self.assertEqual(seen, {True, False})

    def test_all_rows_of_some_rules(self):
        for rule in some_rules(4, 0)[::5] + some_rules(5, 1)[-5:]:
            for row in all_rows(len(rule)):
                every = found_items(rule, row) == list(range(len(rule)))
                self.assertEqual(every, by_parting(rule, middles(row)) == row, (rule, row))

    def test_items_that_are_found(self):
        for rule, row in some_cases():
            found = found_items(rule, row)
            for place, item in enumerate(row):
                right = all(before(rule, item, row[other]) == (other > place) for other in way_to(place, len(row)))
                self.assertEqual(item in found, right, (rule, row, item))

    def test_a_row_without_wrong_pairs_may_hide_items(self):
        # A partial order in which all three tie, but only two of them are found.
        ties = [[0] * 3 for _ in range(3)]
        self.assertIsNone(partial_order(ties))
        self.assertEqual(found_items(ties, [0, 1, 2]), [1, 2])

    def test_lists_are_new(self):
        row = [2, 0, 1]
        for call, args in ((looked_at, (RING, row, 1)), (found_items, (RING, row))):
            first, second = call(*args), call(*args)
            self.assertIsNot(first, second)
            first.append(9)
            self.assertEqual(call(*args), second)
        self.assertEqual(row, [2, 0, 1])

    def test_errors(self):
        for row, place in BAD_ROWS:
            for call, args in ((looked_at, [0]), (looked_at, [None]), (found_at, [7]), (found_items, [])):
                error = caught(InvalidRow, call, RING, row, *args)
                self.assertEqual(error.place, place)
                self.assertIs(error.place.__class__, place.__class__)
        for thing in ODD_THINGS + [-1, 3, 10 ** 5000, [], [0]]:
            for call in (looked_at, found_at):
                self.assertIs(caught(UnknownItem, call, RING, [0, 1, 2], thing).item, thing)
        for call in (looked_at, found_at):
            self.assertEqual(caught(UnknownItem, call, [], [], 0).item, 0)
            self.assertEqual(caught(InvalidRule, call, [[1]], None, None).item, 0)
        self.assertEqual(caught(InvalidRule, found_items, [[1]], None).item, 0)


if __name__ == "__main__":
    unittest.main()
