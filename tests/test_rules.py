"""Points [5] and [7]: rules from pairs, numbers and ballots."""

import itertools
import random
import unittest

from knotsorts.errors import InvalidBallots, InvalidNumbers, InvalidPairs, InvalidSize, InvalidTolerance
from knotsorts.rules import rule_of_ballots, rule_of_numbers, rule_of_pairs
from helpers import ODD_THINGS, RING, caught

BAD_SIZES = [thing for thing in ODD_THINGS] + [-1, 13, 100, -10 ** 30, 10 ** 5000, [], [3]]


class RuleOfPairs(unittest.TestCase):
    def index(self, size, pairs):
        return caught(InvalidPairs, rule_of_pairs, size, pairs).index

    def test_the_example(self):
        self.assertEqual(rule_of_pairs(3, [(0, 1), (1, 2), (2, 0)]), RING)

    def test_sizes(self):
        self.assertEqual(rule_of_pairs(0, []), [])
        self.assertEqual(rule_of_pairs(1, []), [[0]])
        self.assertEqual(rule_of_pairs(2, []), [[0, 0], [0, 0]])
        self.assertEqual(rule_of_pairs(12, []), [[0] * 12 for _ in range(12)])

    def test_a_pair_given_again(self):
        self.assertEqual(rule_of_pairs(2, [(1, 0), (1, 0), (1, 0)]), [[0, 1], [-1, 0]])
        self.assertEqual(rule_of_pairs(3, [(0, 1), (2, 1), (0, 1)]), [[0, -1, 0], [1, 0, 1], [0, -1, 0]])

    def test_all_answers(self):
        for seed in range(40):
            chance = random.Random(seed)
            size = chance.randrange(13)
            pairs = [chance.choice(((x, y), (y, x))) for x, y in itertools.combinations(range(size), 2)]
            pairs = [pair for pair in pairs if chance.random() < 0.7]
            chance.shuffle(pairs)
            rule = rule_of_pairs(size, pairs)
            self.assertEqual([len(row) for row in rule], [size] * size)
            for x, y in itertools.product(range(size), repeat=2):
                expected = -1 if (x, y) in pairs else 1 if (y, x) in pairs else 0
                self.assertIs(rule[x][y].__class__, int)
                self.assertEqual(rule[x][y], expected)

    def test_two_hundred_pairs(self):
        pairs = list(itertools.combinations(range(12), 2))
        rule = rule_of_pairs(12, (pairs * 4)[:200])
        self.assertEqual(rule[0], [0] + [-1] * 11)
        self.assertEqual(rule[11], [1] * 11 + [0])

    def test_invalid_sizes(self):
        for size in BAD_SIZES:
            self.assertIs(caught(InvalidSize, rule_of_pairs, size, []).size, size)

    def test_the_size_comes_first(self):
        for pairs in (None, [None], [(0, 0)], ()):
            self.assertEqual(caught(InvalidSize, rule_of_pairs, 13, pairs).size, 13)

    def test_no_list(self):
        for pairs in ODD_THINGS + [0, ((0, 1),)]:
            self.assertIsNone(self.index(3, pairs))

    def test_no_pair(self):
        wrong = [
            [0, 1], (0,), (0, 1, 2), (), (1, 1), (0, 3), (3, 0), (-1, 0), (0, -1), (True, 0), (0, True), (False, 1),
            (0, None), ("0", "1"), (0, [1]), ([], []), ({}, 0), "01", 1, None, (0, 10 ** 30), ((0, 1), 1),
        ]
        for pair in wrong:
            self.assertEqual(self.index(3, [pair]), 0, pair)
            self.assertEqual(self.index(3, [(1, 2), (0, 2), pair]), 2, pair)
            self.assertEqual(self.index(3, [(1, 2), pair, pair, (2, 1)]), 1, pair)

    def test_no_pair_fits_a_small_rule(self):
        self.assertEqual(self.index(0, [(0, 1)]), 0)
        self.assertEqual(self.index(1, [(0, 1)]), 0)
        self.assertEqual(self.index(1, [(0, 0)]), 0)

    def test_the_opposite_of_an_earlier_pair(self):
        self.assertEqual(self.index(3, [(0, 1), (1, 0)]), 1)
        self.assertEqual(self.index(3, [(1, 0), (1, 2), (0, 2), (0, 1), (2, 1)]), 3)
        self.assertEqual(self.index(3, [(0, 1), (0, 1), (1, 0)]), 2)
        self.assertEqual(self.index(3, [(0, 1), (1, 0), (5, 5)]), 1)
        self.assertEqual(self.index(3, [(0, 1), (5, 5), (1, 0)]), 1)


class RuleOfNumbers(unittest.TestCase):
    def index(self, numbers):
        return caught(InvalidNumbers, rule_of_numbers, numbers).index

    def test_the_example(self):
        self.assertEqual(rule_of_numbers([5, 3, 4], tolerance=1), [[0, 1, 0], [-1, 0, 0], [0, 0, 0]])

    def test_no_number_and_one(self):
        self.assertEqual(rule_of_numbers([]), [])
        self.assertEqual(rule_of_numbers([], tolerance=5), [])
        self.assertEqual(rule_of_numbers([-7]), [[0]])

    def test_equal_numbers_tie(self):
        self.assertEqual(rule_of_numbers([4, 4]), [[0, 0], [0, 0]])
        self.assertEqual(rule_of_numbers([4, -4, 4]), [[0, 1, 0], [-1, 0, -1], [0, 1, 0]])

    def test_the_tolerance_is_0_unless_given(self):
        self.assertEqual(rule_of_numbers([1, 2]), [[0, -1], [1, 0]])
        self.assertEqual(rule_of_numbers([1, 2]), rule_of_numbers([1, 2], tolerance=0))

    def test_exactly_the_tolerance_and_one_more(self):
        huge = 98765432109876543210
        for low in (-huge, -3, 0, 3, huge - 10):
            for tolerance in (0, 1, 2, 7, 10):
                tie = rule_of_numbers([low, low + tolerance], tolerance=tolerance)
                self.assertEqual(tie, [[0, 0], [0, 0]])
                order = rule_of_numbers([low, low + tolerance + 1], tolerance=tolerance)
                self.assertEqual(order, [[0, -1], [1, 0]])
                order = rule_of_numbers([low + tolerance + 1, low], tolerance=tolerance)
                self.assertEqual(order, [[0, 1], [-1, 0]])

    def test_numbers_of_twenty_digits(self):
        numbers = [99999999999999999999, -99999999999999999999, 99999999999999999998]
        self.assertEqual(rule_of_numbers(numbers), [[0, 1, 1], [-1, 0, -1], [-1, 1, 0]])
        self.assertEqual(rule_of_numbers(numbers, tolerance=1), [[0, 1, 0], [-1, 0, -1], [0, 1, 0]])
        self.assertEqual(rule_of_numbers(numbers, tolerance=99999999999999999999), [[0, 1, 0], [-1, 0, -1], [0, 1, 0]])

    def test_all_answers(self):
        for seed in range(40):
            chance = random.Random(seed)
            numbers = [chance.randrange(-9, 10) for _ in range(chance.randrange(13))]
            tolerance = chance.randrange(6)
            rule = rule_of_numbers(numbers, tolerance=tolerance)
            self.assertEqual([len(row) for row in rule], [len(numbers)] * len(numbers))
            for x, y in itertools.product(range(len(numbers)), repeat=2):
                gap = numbers[y] - numbers[x]
                expected = 0 if abs(gap) <= tolerance else -1 if gap > 0 else 1
                self.assertIs(rule[x][y].__class__, int)
                self.assertEqual(rule[x][y], expected)

    def test_twelve_numbers(self):
        rule = rule_of_numbers(list(range(12)))
        self.assertEqual(rule, [[(x > y) - (x < y) for y in range(12)] for x in range(12)])

    def test_no_list_of_at_most_twelve_things(self):
        for numbers in ODD_THINGS + [0, 5, (1, 2), list(range(13)), [None] * 13]:
            self.assertIsNone(self.index(numbers))

    def test_no_whole_number(self):
        for thing in ODD_THINGS + [[], [1], 1.5]:
            self.assertEqual(self.index([thing]), 0)
            self.assertEqual(self.index([0, 1, thing, thing]), 2)
            self.assertEqual(self.index([0] * 11 + [thing]), 11)

    def test_invalid_tolerances(self):
        for tolerance in [thing for thing in ODD_THINGS] + [-1, -10 ** 30, [], [1]]:
            error = caught(InvalidTolerance, rule_of_numbers, [1, 2], tolerance=tolerance)
            self.assertIs(error.tolerance, tolerance)

    def test_the_numbers_come_first(self):
        self.assertEqual(caught(InvalidNumbers, rule_of_numbers, [1, True], tolerance=-1).index, 1)
        self.assertIsNone(caught(InvalidNumbers, rule_of_numbers, None, tolerance=-1).index)

    def test_the_tolerance_is_keyword_only(self):
        with self.assertRaises(TypeError):
            rule_of_numbers([1, 2], 1)


class RuleOfBallots(unittest.TestCase):
    def index(self, size, ballots):
        return caught(InvalidBallots, rule_of_ballots, size, ballots).index

    def test_the_example(self):
        self.assertEqual(rule_of_ballots(3, [[0, 1, 2], [1, 2, 0], [2, 0, 1]]), RING)

    def test_no_ballot(self):
        self.assertEqual(rule_of_ballots(3, []), [[0] * 3 for _ in range(3)])
        self.assertEqual(rule_of_ballots(12, []), [[0] * 12 for _ in range(12)])

    def test_size_0_and_1(self):
        self.assertEqual(rule_of_ballots(0, []), [])
        self.assertEqual(rule_of_ballots(0, [[], []]), [])
        self.assertEqual(rule_of_ballots(1, [[0]]), [[0]])

    def test_equal_numbers_of_votes(self):
        self.assertEqual(rule_of_ballots(2, [[0, 1], [1, 0]]), [[0, 0], [0, 0]])
        self.assertEqual(rule_of_ballots(3, [[0, 1, 2], [1, 0, 2]]), [[0, 0, -1], [0, 0, -1], [1, 1, 0]])

    def test_a_majority_of_one(self):
        self.assertEqual(rule_of_ballots(2, [[0, 1], [1, 0], [1, 0]]), [[0, 1], [-1, 0]])

    def test_all_answers_up_to_sixty_ballots(self):
        for seed in range(40):
            chance = random.Random(seed)
            size = chance.randrange(13)
            ballots = [chance.sample(range(size), size) for _ in range(chance.choice((1, 2, 4, 7, 59, 60)))]
            rule = rule_of_ballots(size, ballots)
            self.assertEqual([len(row) for row in rule], [size] * size)
            for x, y in itertools.product(range(size), repeat=2):
                ahead = sum(ballot.index(x) < ballot.index(y) for ballot in ballots)
                behind = sum(ballot.index(x) > ballot.index(y) for ballot in ballots)
                expected = -1 if ahead > behind else 1 if ahead < behind else 0
                self.assertIs(rule[x][y].__class__, int)
                self.assertEqual(rule[x][y], expected)

    def test_invalid_sizes(self):
        for size in BAD_SIZES:
            self.assertIs(caught(InvalidSize, rule_of_ballots, size, []).size, size)

    def test_the_size_comes_first(self):
        self.assertEqual(caught(InvalidSize, rule_of_ballots, -1, None).size, -1)
        self.assertEqual(caught(InvalidSize, rule_of_ballots, 13, [[5]]).size, 13)

    def test_no_list(self):
        for ballots in ODD_THINGS + [0, ([0, 1],)]:
            self.assertIsNone(self.index(2, ballots))

    def test_no_list_of_all_items(self):
        wrong = ODD_THINGS + [
            0, (0, 1, 2), [0, True, 2], [False, 1, 2], [0, 1, 1], [0, 0, 0], [0, 1], [], [0, 1, 2, 2], [0, 1, 2, 3],
            [1, 2, 3], [0, 1, -1], [0, 1, None], [0, 1, "2"], [0, 1, [2]], [0, 1, 2.0], [{}, [], ()], "012",
        ]
        for ballot in wrong:
            self.assertEqual(self.index(3, [ballot]), 0, ballot)
            self.assertEqual(self.index(3, [[0, 1, 2], [2, 1, 0], ballot, ballot]), 2, ballot)

    def test_ballots_of_no_items(self):
        self.assertEqual(self.index(0, [[], [0]]), 1)
        self.assertEqual(self.index(0, [()]), 0)


if __name__ == "__main__":
    unittest.main()
