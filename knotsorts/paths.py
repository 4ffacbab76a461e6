"""Paths: where a row is none, one with a wanted order, how many there are and which."""

from knotsorts.basics import check_item, check_row, check_rule, may_precede
from knotsorts.errors import TooMany
from knotsorts.knots import knots, ring
from knotsorts.parts import bit_of, is_in, part_of, step_table

MOST_YIELDED = 1000


def first_break(rule, items):
    """None if each of these items may precede the next one, otherwise the first place where one may not."""
    for place in range(len(items) - 1):
        if not may_precede(rule, items[place], items[place + 1]):
            return place
    return None


def wrong_place(rule, row):
    """None if a row is a path, otherwise the first place whose item may not precede the next one."""
    check_rule(rule)
    check_row(rule, row)
    return first_break(rule, row)


def path_of_knot(rule, start):
    """A path of the knot of an item that begins with this item."""
    around = ring(rule, start)
    if around is None:
        return [start]
    return around


def path_starting(rule, item):
    """A path in which no other item of its knot is ahead of an item."""
    path = []
    for knot in knots(rule):
        start = item if item in knot else knot[0]
        path = path + path_of_knot(rule, start)
    return path


def path_with(rule, first, second):
    """A path in which the first item is ahead of the second one, or None if there is none."""
    check_rule(rule)
    check_item(rule, first)
    check_item(rule, second)
    if first == second:
        return None
    path = path_starting(rule, first)
    # Now it is behind only if its knot is, and then it is so in every path.
    if path.index(second) < path.index(first):
        return None
    return path


def ways_on(steps, table, part):
    """For each item, and for the beginning, how many ways lead on from it through just the items of a part."""
    return [sum([table[part - bit_of(item)][item] for item in nexts if is_in(item, part)]) for nexts in steps]


def ways_table(steps):
    """For each part, what `ways_on` says of it; the last number in the last part's list is that of all paths."""
    size = len(steps) - 1
    table = [[1] * len(steps)]
    for part in range(1, bit_of(size)):
        table.append(ways_on(steps, table, part))
    return table


def count_paths(rule):
    """The number of paths."""
    check_rule(rule)
    table = ways_table(step_table(rule))
    return table[-1][-1]


def longer_paths(steps, table, path):
    """The beginnings of paths, in ascending order, that are longer than this one by one item."""
    left = len(table) - 1 - part_of(path)
    # The last list of steps is that of the beginning.
    nexts = steps[path[-1]] if path else steps[-1]
    # What has no way on to all other items begins no path: so no search ends in vain.
    return [path + [item] for item in nexts if is_in(item, left) and table[left - bit_of(item)][item] > 0]


def each_path(rule):
    """Yields the paths in ascending order."""
    check_rule(rule)
    steps = step_table(rule)
    table = ways_table(steps)
    count = table[-1][-1]
    if count > MOST_YIELDED:
        raise TooMany(count)
    paths = [[]]
    for _ in range(len(rule)):
        paths = [longer for path in paths for longer in longer_paths(steps, table, path)]
    for path in paths:
        yield path
