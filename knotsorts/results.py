"""Results: inputs whose result a row is, bars that tell that there is none, and all results of a sort."""

from knotsorts.basics import check_row, check_rule, check_sort, is_before, is_whole
from knotsorts.errors import TooMany
from knotsorts.paths import first_break
from knotsorts.sorts import SORTS, run_sort

BARRED_SORTS = ("insertion", "bubbling", "parting")
MOST_ITEMS_TRIED = 6


def is_pivot(rule, row, first, last, place):
    """Whether the item at a place is a pivot of the stretch from one place up to the place before another one."""
    pivot = row[place]
    if not all([is_before(rule, item, pivot) for item in row[first:place]]):
        return False
    return not any([is_before(rule, item, pivot) for item in row[place + 1:last]])


def pivot_places(rule, row, first, last):
    """The ascending list of the places of the pivots of the stretch from one place up to the place before another."""
    return [place for place in range(first, last) if is_pivot(rule, row, first, last, place)]


def input_of_path(rule, row):
    """The input or the bar of a row for insertion and for bubbling."""
    place = first_break(rule, row)
    if place is not None:
        return ("bar", place, place + 2)
    # Both sorts leave a path as it is.
    return ("input", list(row))


def input_of_parts(rule, row):
    """The input or the bar of a row for parting."""
    found = []
    # The stretches whose items are still to come in the input, the next one last.
    stretches = [(0, len(row))]
    while stretches:
        first, last = stretches.pop()
        if first < last:
            places = pivot_places(rule, row, first, last)
            if not places:
                return ("bar", first, last)
            # If each stretch has a pivot, each pivot leads to an input.
            place = places[0]
            found.append(row[place])
            stretches.append((place + 1, last))
            stretches.append((first, place))
    return ("input", found)


def check_barred(rule, row, sort):
    """Raises the errors of a rule, a row and the name of a sort that has bars."""
    check_rule(rule)
    check_row(rule, row)
    check_sort(sort, BARRED_SORTS)


def input_for(rule, row, sort):
    """An input of which a row is the result, or a bar that tells that there is none."""
    check_barred(rule, row, sort)
    if sort == "parting":
        return input_of_parts(rule, row)
    return input_of_path(rule, row)


def is_stretch(row, first, last):
    """Whether two things are the places at which a stretch of at least one item begins and behind which it ends."""
    return is_whole(first) and is_whole(last) and 0 <= first < last <= len(row)


def is_bar(rule, row, sort, first, last):
    """Whether two places are those of a bar of a row."""
    check_barred(rule, row, sort)
    if not is_stretch(row, first, last):
        return False
    if sort == "parting":
        return not pivot_places(rule, row, first, last)
    return last - first == 2 and is_before(rule, row[first + 1], row[first])


def all_rows(size):
    """All rows of a size."""
    rows = [[]]
    for item in range(size):
        rows = [row[:place] + [item] + row[place:] for row in rows for place in range(len(row) + 1)]
    return rows


def all_results(rule, sort):
    """The ascending list of the results of a sort over all inputs, each once."""
    check_rule(rule)
    check_sort(sort, list(SORTS))
    if len(rule) > MOST_ITEMS_TRIED:
        raise TooMany(len(rule))
    found = {}
    for row in all_rows(len(rule)):
        result = run_sort(rule, row, sort)[0]
        found[tuple(result)] = True
    return [list(result) for result in sorted(found)]


def each_result(rule, sort):
    """Yields the results of a sort over all inputs, each once, in ascending order."""
    for result in all_results(rule, sort):
        yield result


def count_results(rule, sort):
    """The number of the results of a sort over all inputs."""
    return len(all_results(rule, sort))
