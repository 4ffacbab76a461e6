"""Parts of the items of a rule, and the steps of paths through them.

A part is written as a whole number in which the bit of each of its items is
set. So a part is a greater number than what is left of it without an item, and
a table over all parts can be filled in their order.
"""

from knotsorts.basics import may_precede


def bit_of(item):
    """The part with just one item."""
    return 1 << item


def part_of(items):
    """The part with just these items, each of them named once."""
    return sum([bit_of(item) for item in items])


def is_in(item, part):
    """Whether an item is in a part."""
    return part & bit_of(item) != 0


def items_in(part):
    """The ascending list of the items of a part."""
    return [item for item in range(part.bit_length()) if is_in(item, part)]


def step_table(rule):
    """For each item, the ascending list of the items that it may precede, itself left out.

    Behind the lists of the items stands one for the beginning of a path, at
    which every item may come next.
    """
    items = range(len(rule))
    table = [[other for other in items if other != one and may_precede(rule, one, other)] for one in items]
    return table + [list(items)]
