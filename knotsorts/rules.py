"""Rules from pairs, numbers and ballots, and whether a rule is an order."""

from knotsorts.basics import check_rule, is_before, is_pair, is_row, is_whole, may_precede
from knotsorts.errors import InvalidBallots, InvalidNumbers, InvalidPairs, InvalidSize, InvalidTolerance

MOST_ITEMS = 12


def check_size(size):
    """Raises InvalidSize if this is not a size of a rule."""
    if not is_whole(size) or size < 0 or size > MOST_ITEMS:
        raise InvalidSize(size)


def check_numbers(numbers):
    """Raises InvalidNumbers if this is not a list of at most 12 whole numbers."""
    if not isinstance(numbers, list) or len(numbers) > MOST_ITEMS:
        raise InvalidNumbers(None)
    for index, number in enumerate(numbers):
        if not is_whole(number):
            raise InvalidNumbers(index)


def check_ballots(size, ballots):
    """Raises InvalidBallots if this is not a list of lists of all items."""
    if not isinstance(ballots, list):
        raise InvalidBallots(None)
    for index, ballot in enumerate(ballots):
        if not is_row(size, ballot):
            raise InvalidBallots(index)


def square_of_zeros(size):
    """The rule in which all items tie."""
    return [[0] * size for _ in range(size)]


def rule_of_pairs(size, pairs):
    """The rule in which the first item of each pair is before the second one."""
    check_size(size)
    if not isinstance(pairs, list):
        raise InvalidPairs(None)
    rule = square_of_zeros(size)
    for index, pair in enumerate(pairs):
        # The rule so far says of which pairs the opposite came earlier.
        if not is_pair(size, pair) or is_before(rule, pair[1], pair[0]):
            raise InvalidPairs(index)
        one, other = pair
        rule[one][other] = -1
        rule[other][one] = 1
    return rule


def answer_of_numbers(one, other, tolerance):
    """The answer about two items with these numbers."""
    if one + tolerance < other:
        return -1
    if other + tolerance < one:
        return 1
    return 0


def rule_of_numbers(numbers, *, tolerance=0):
    """The rule in which items tie if their numbers differ by at most the tolerance."""
    check_numbers(numbers)
    if not is_whole(tolerance) or tolerance < 0:
        raise InvalidTolerance(tolerance)
    return [[answer_of_numbers(one, other, tolerance) for other in numbers] for one in numbers]


def rule_of_ballots(size, ballots):
    """The rule in which an item is before another one if more ballots have it ahead."""
    check_size(size)
    check_ballots(size, ballots)
    votes = square_of_zeros(size)
    for ballot in ballots:
        for place, one in enumerate(ballot):
            for other in ballot[place + 1:]:
                votes[one][other] += 1
    items = range(size)
    # The item with fewer ballots that have the other one ahead is before the other one.
    return [[answer_of_numbers(votes[other][one], votes[one][other], 0) for other in items] for one in items]


def partial_order(rule):
    """None if the rule is a partial order, otherwise the least three items that break it."""
    check_rule(rule)
    items = range(len(rule))
    for x in items:
        for y in items:
            for z in items:
                if is_before(rule, x, y) and is_before(rule, y, z) and not is_before(rule, x, z):
                    return (x, y, z)
    return None


def weak_order(rule):
    """None if the rule is a weak order, otherwise the least three items that break it."""
    check_rule(rule)
    items = range(len(rule))
    for x in items:
        for y in items:
            for z in items:
                if may_precede(rule, x, y) and may_precede(rule, y, z) and not may_precede(rule, x, z):
                    return (x, y, z)
    return None
