"""Wrong pairs of rows, and the paths with the fewest and with the most of them."""

from knotsorts.basics import check_row, check_rule, is_before
from knotsorts.parts import bit_of, is_in, items_in, step_table


def wrong_pairs(rule, row):
    """The ascending list of the wrong pairs of a row."""
    check_rule(rule)
    check_row(rule, row)
    pairs = [(x, y) for place, x in enumerate(row) for y in row[place + 1:] if is_before(rule, y, x)]
    return sorted(pairs)


def wrong_numbers(rule, part):
    """For each item, how many wrong pairs it makes with the items of a part if it stands ahead of them."""
    others = items_in(part)
    return [len([other for other in others if is_before(rule, other, item)]) for item in range(len(rule))]


def best_end(nexts, table, part, numbers, most):
    """The best of the ends of a path that have just the items of a part, one of `nexts` first; None if none has."""
    ends = []
    for item in nexts:
        if is_in(item, part):
            rest = table[part - bit_of(item)][item]
            if rest is not None:
                number, path = rest
                ends.append((number + numbers[item], [item] + path))
    if most:
        return max(ends, default=None)
    return min(ends, default=None)


def best_path(rule, most):
    """The tuple of the greatest or the least number of wrong pairs that a path has, and such a path."""
    steps = step_table(rule)
    # For each part, the best end behind each item and, as the last thing, behind the beginning.
    table = [[(0, []) for _ in steps]]
    for part in range(1, bit_of(len(rule))):
        numbers = wrong_numbers(rule, part)
        table.append([best_end(nexts, table, part, numbers, most) for nexts in steps])
    return table[-1][-1]


def fewest_wrong(rule):
    """The tuple of the least number of wrong pairs that a row has, and such a row that is a path."""
    check_rule(rule)
    # Every row with the fewest wrong pairs is a path, so it is enough to look at paths.
    return best_path(rule, False)


def most_wrong(rule):
    """The tuple of the greatest number of wrong pairs that a path has, and such a path."""
    check_rule(rule)
    return best_path(rule, True)
