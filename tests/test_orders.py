"""Points [5] and [6]: partial and weak orders."""

import itertools
import unittest

from knotsorts.rules import partial_order, rule_of_numbers, rule_of_pairs, weak_order
from helpers import RING, before, may_precede, rule_from, some_rules


def least_break(rule, holds):
    """The least tuple of three items, equal ones among them, that breaks what shall pass on."""
    for x, y, z in itertools.product(range(len(rule)), repeat=3):
        if holds(rule, x, y) and holds(rule, y, z) and not holds(rule, x, z):
            return (x, y, z)
    return None


class Orders(unittest.TestCase):
    def test_the_example(self):
        rule = rule_of_numbers([5, 3, 4], tolerance=1)
        self.assertEqual((partial_order(rule), weak_order(rule)), (None, (0, 2, 1)))

    def test_a_ring(self):
        self.assertEqual((partial_order(RING), weak_order(RING)), ((0, 1, 2), (0, 1, 2)))
        back = [[-answer for answer in row] for row in RING]
        self.assertEqual((partial_order(back), weak_order(back)), ((0, 2, 1), (0, 2, 1)))

    def test_no_ring_but_a_tie_where_an_answer_is_missing(self):
        rule = rule_of_pairs(3, [(2, 1), (1, 0)])
        self.assertEqual(partial_order(rule), (2, 1, 0))
        # Not (2, 1, 0): item 2 may precede item 0. But item 0 may precede 2, and 2 may precede 1.
        self.assertEqual(weak_order(rule), (0, 2, 1))

    def test_ties_that_do_not_pass_on(self):
        rule = rule_of_pairs(3, [(0, 1)])
        self.assertIsNone(partial_order(rule))
        self.assertEqual(weak_order(rule), (1, 2, 0))

    def test_orders(self):
        for rule in ([], [[0]], [[0, 0], [0, 0]], rule_of_numbers([3, 1, 2, 1]), rule_of_numbers(list(range(12)))):
            self.assertIsNone(partial_order(rule))
            self.assertIsNone(weak_order(rule))

    def test_the_last_three_of_twelve_items(self):
        # The first nine items are in order and before all others; the last three are a ring.
        pairs = list(itertools.combinations(range(12), 2))
        rule = rule_from(12, [1 if pair == (9, 11) else -1 for pair in pairs])
        self.assertEqual(partial_order(rule), (9, 10, 11))
        self.assertEqual(weak_order(rule), (9, 10, 11))

    def test_against_a_look_at_all_three_items(self):
        for rule in some_rules():
            partial = partial_order(rule)
            weak = weak_order(rule)
            self.assertEqual(partial, least_break(rule, before), rule)
            self.assertEqual(weak, least_break(rule, may_precede), rule)
            for told in (partial, weak):
                self.assertTrue(told is None or isinstance(told, tuple))


if __name__ == "__main__":
    unittest.main()
