"""How many inputs a row is the result of, and which items can stand first in a result."""

from math import comb

from knotsorts.basics import check_item, check_row, check_rule, check_sort, is_before, with_the_others
from knotsorts.knots import knots
from knotsorts.parts import bit_of, is_in
from knotsorts.paths import first_break, path_starting
from knotsorts.results import pivot_places
from knotsorts.scanning import guarded_chain, input_keeping

COUNTED_SORTS = ("insertion", "bubbling", "parting")
FIRST_SORTS = ("insertion", "bubbling", "parting", "choosing")


def is_before_all(rule, one, items):
    """Whether an item is before all of these items."""
    return all([is_before(rule, one, item) for item in items])


def inputs_of_path(rule, items, part, table):
    """For how many inputs of just the items of a part they stand in this order in the result of insertion."""
    if first_break(rule, items) is not None:
        return 0
    # These can be the last item of the input.
    lasts = [item for place, item in enumerate(items) if is_before_all(rule, item, items[place + 1:])]
    return sum([table[part - bit_of(item)] for item in lasts])


def count_by_insertion(rule, row):
    """For how many inputs a row is the result of insertion, and so of bubbling."""
    table = [1]
    for part in range(1, bit_of(len(row))):
        items = [item for item in row if is_in(item, part)]
        table.append(inputs_of_path(rule, items, part, table))
    return table[-1]


def inputs_of_stretch(rule, row, first, last, table):
    """For how many inputs of just its items a stretch of a row is the result of parting."""
    many = 0
    for place in pivot_places(rule, row, first, last):
        # The parts on both sides of the pivot come from inputs of their own, mixed in any way.
        mixed = comb(last - first - 1, place - first)
        many += table[(first, place)] * table[(place + 1, last)] * mixed
    return many


def count_by_parting(rule, row):
    """For how many inputs a row is the result of parting."""
    size = len(row)
    table = {(place, place): 1 for place in range(size + 1)}
    for length in range(1, size + 1):
        for first in range(size - length + 1):
            last = first + length
            table[(first, last)] = inputs_of_stretch(rule, row, first, last, table)
    return table[(0, size)]


def count_inputs(rule, row, sort):
    """The number of the inputs for which a row is the result of a sort."""
    check_rule(rule)
    check_row(rule, row)
    check_sort(sort, COUNTED_SORTS)
    if sort == "parting":
        return count_by_parting(rule, row)
    return count_by_insertion(rule, row)


def parting_chains(rule):
    """For each item that parting puts first for some input, a chain of items that ends with it.

    Each item of the chain is before all earlier ones, and no item is before
    all of them: so they are the pivots that parting takes one after the other
    to find what stands first.
    """
    found = {}
    chains = [[item] for item in range(len(rule))]
    while chains:
        chain = chains.pop()
        nexts = [item for item in range(len(rule)) if is_before_all(rule, item, chain)]
        if not nexts:
            found[chain[-1]] = chain
        chains = chains + [chain + [item] for item in nexts]
    return found


def firsts(rule, sort):
    """The ascending list of the items that stand first in the result of a sort for some input."""
    check_rule(rule)
    check_sort(sort, FIRST_SORTS)
    if not rule:
        return []
    if sort == "parting":
        return sorted(parting_chains(rule))
    if sort == "choosing":
        return [item for item in range(len(rule)) if guarded_chain(rule, item) is not None]
    return knots(rule)[0]


def parting_first(rule, item):
    """An input for which parting puts an item first, or None if there is none."""
    found = parting_chains(rule)
    if item not in found:
        return None
    return with_the_others(rule, found[item])


def insertion_first(rule, item):
    """An input for which insertion and bubbling put an item first, or None if there is none."""
    path = path_starting(rule, item)
    if path[0] != item:
        return None
    # Both sorts leave a path as it is.
    return path


def input_with_first(rule, item, sort):
    """An input for which a sort puts an item first, or None if there is none."""
    check_rule(rule)
    check_item(rule, item)
    check_sort(sort, FIRST_SORTS)
    if sort == "parting":
        return parting_first(rule, item)
    if sort == "choosing":
        # Choosing puts first what is kept at the end.
        return input_keeping(rule, item)
    return insertion_first(rule, item)
