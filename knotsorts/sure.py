"""What is sure for all inputs of insertion, parting and choosing, and inputs for what is possible."""

from knotsorts.basics import check_item, check_rule, check_sort, is_before, items_behind, with_the_others
from knotsorts.knots import knots
from knotsorts.paths import path_with

SURE_SORTS = ("insertion", "parting", "choosing")


def is_covering(rule, one, other):
    """Whether one item covers another one."""
    behind = [other] + items_behind(rule, other)
    return all([is_before(rule, one, item) for item in behind])


def covers(rule, one, other):
    """Whether one item covers another one."""
    check_rule(rule)
    check_item(rule, one)
    check_item(rule, other)
    return is_covering(rule, one, other)


def chain_away(rule, start, one):
    """A chain from an item on, each item before the next one, up to an item that `one` is not before.

    It is before all the others in the chain. None if it is before the first
    item and all items to which chains lead from there.
    """
    chains = [[start]]
    met = [start]
    while chains:
        chain = chains.pop(0)
        if not is_before(rule, one, chain[-1]):
            return chain
        fresh = [item for item in items_behind(rule, chain[-1]) if item not in met]
        met = met + fresh
        chains = chains + [chain + [item] for item in fresh]
    return None


def knot_pairs(rule):
    """The ascending list of the pairs of items of which the first one's knot stands earlier."""
    pairs = []
    earlier = []
    for knot in knots(rule):
        pairs = pairs + [(x, y) for x in earlier for y in knot]
        earlier = earlier + knot
    return sorted(pairs)


def sure_pairs(rule, *, sort="insertion"):
    """The ascending list of the pairs of items of which the first one is ahead for every input."""
    check_rule(rule)
    check_sort(sort, SURE_SORTS)
    if sort == "insertion":
        return knot_pairs(rule)
    items = range(len(rule))
    if sort == "parting":
        return [(x, y) for x in items for y in items if is_covering(rule, x, y)]
    return [(x, y) for x in items for y in items if chain_away(rule, y, x) is None]


def parting_row(rule, first, second):
    """An input for which parting puts the first of two different items ahead, or None."""
    # The first pivot decides: itself ahead of what is not before it, or one between the two.
    for pivot in [first] + items_behind(rule, first):
        if not is_before(rule, second, pivot):
            return with_the_others(rule, [pivot])
    return None


def choosing_row(rule, first, second):
    """An input for which choosing puts the first of two different items ahead, or None."""
    chain = chain_away(rule, first, second)
    if chain is None:
        return None
    # The second item meets the end of the chain, which it does not replace. From there on the
    # items of the chain replace one another up to the first one, whenever the row is gone through.
    back = chain[::-1]
    return with_the_others(rule, [back[0], second] + back[1:])


def input_with(rule, first, second, *, sort="insertion"):
    """An input for which the sort puts the first item ahead of the second one, or None."""
    check_rule(rule)
    check_item(rule, first)
    check_item(rule, second)
    check_sort(sort, SURE_SORTS)
    if first == second:
        return None
    if sort == "insertion":
        # Insertion leaves a path as it is.
        return path_with(rule, first, second)
    if sort == "parting":
        return parting_row(rule, first, second)
    return choosing_row(rule, first, second)
