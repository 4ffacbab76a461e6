"""The seven sorts: their results, the pairs about which they ask, and what is faithful."""

from knotsorts.basics import check_row, check_rule, check_sort, is_before, is_pair
from knotsorts.errors import InvalidPairs


class Asker:
    """Answers by a rule and keeps the pairs about which it was asked."""

    def __init__(self, rule):
        self._rule = rule
        self.asked = []

    def ask(self, one, other):
        """Whether one item is before another one."""
        self.asked.append((one, other))
        return is_before(self._rule, one, other)


def insertion_place(asker, items, item):
    """The place at which insertion puts an item in."""
    place = len(items)
    while place > 0 and asker.ask(item, items[place - 1]):
        place -= 1
    return place


def halving_place(asker, items, item):
    """The place at which halving puts an item in."""
    low = 0
    high = len(items)
    while low < high:
        middle = (low + high) // 2
        if asker.ask(item, items[middle]):
            high = middle
        else:
            low = middle + 1
    return low


def by_insertion(asker, row):
    """The items of a row, sorted by insertion."""
    result = []
    for item in row:
        result.insert(insertion_place(asker, result, item), item)
    return result


def by_halving(asker, row):
    """The items of a row, sorted by halving."""
    result = []
    for item in row:
        result.insert(halving_place(asker, result, item), item)
    return result


def merged(asker, first, second):
    """The items of two results, merged."""
    result = []
    one = 0
    other = 0
    while one < len(first) and other < len(second):
        if asker.ask(second[other], first[one]):
            result.append(second[other])
            other += 1
        else:
            result.append(first[one])
            one += 1
    return result + first[one:] + second[other:]


def by_merging(asker, row):
    """The items of a row, sorted by merging."""
    if len(row) <= 1:
        return list(row)
    half = len(row) // 2
    first = by_merging(asker, row[:half])
    second = by_merging(asker, row[half:])
    return merged(asker, first, second)


def by_parting(asker, row):
    """The items of a row, sorted by parting."""
    if len(row) <= 1:
        return list(row)
    pivot = row[0]
    first = []
    second = []
    for item in row[1:]:
        if asker.ask(item, pivot):
            first.append(item)
        else:
            second.append(item)
    ahead = by_parting(asker, first)
    behind = by_parting(asker, second)
    return ahead + [pivot] + behind


def by_choosing(asker, row):
    """The items of a row, sorted by choosing."""
    left = list(row)
    result = []
    while left:
        kept = left[0]
        for item in left[1:]:
            if asker.ask(item, kept):
                kept = item
        left.remove(kept)
        result.append(kept)
    return result


def by_bubbling(asker, row):
    """The items of a row, sorted by bubbling."""
    result = list(row)
    for last in range(len(result) - 1, 0, -1):
        for place in range(last):
            one = result[place]
            other = result[place + 1]
            if asker.ask(other, one):
                result[place] = other
                result[place + 1] = one
    return result


def settle(asker, heap, start):
    """Settles a place of a list."""
    place = start
    child = 2 * place + 1
    while child < len(heap):
        if child + 1 < len(heap) and asker.ask(heap[child + 1], heap[child]):
            child += 1
        one = heap[child]
        other = heap[place]
        if not asker.ask(one, other):
            return
        heap[place] = one
        heap[child] = other
        place = child
        child = 2 * place + 1


def by_heaping(asker, row):
    """The items of a row, sorted by heaping."""
    heap = list(row)
    for place in range(len(heap) // 2 - 1, -1, -1):
        settle(asker, heap, place)
    result = []
    while heap:
        result.append(heap[0])
        last = heap.pop()
        # Nothing is left to settle if the last one was the first one, too.
        if heap:
            heap[0] = last
            settle(asker, heap, 0)
    return result


SORTS = {
    "insertion": by_insertion,
    "halving": by_halving,
    "merging": by_merging,
    "parting": by_parting,
    "choosing": by_choosing,
    "bubbling": by_bubbling,
    "heaping": by_heaping,
}


def run_sort(rule, row, sort):
    """The tuple of the result of a sort and its asked pairs."""
    asker = Asker(rule)
    action = SORTS[sort]
    result = action(asker, row)
    return result, asker.asked


def check_sorting(rule, row, sort):
    """Raises the errors of a rule, an input and the name of a sort."""
    check_rule(rule)
    check_row(rule, row)
    check_sort(sort, list(SORTS))


def sorted_row(rule, row, sort):
    """The result of a sort for an input."""
    check_sorting(rule, row, sort)
    return run_sort(rule, row, sort)[0]


def asked_pairs(rule, row, sort):
    """The list of the pairs about which a sort asks for an input, in the order in which it asks."""
    check_sorting(rule, row, sort)
    return run_sort(rule, row, sort)[1]


def check_pairs(rule, pairs):
    """Raises InvalidPairs if this is not a list of tuples of two different items."""
    if not isinstance(pairs, list):
        raise InvalidPairs(None)
    for index, pair in enumerate(pairs):
        if not is_pair(len(rule), pair):
            raise InvalidPairs(index)


def stands_right(rule, row, result, pair):
    """Whether the two items of a pair stand in a result as a faithful sort puts them if it asks about them."""
    one, other = pair
    if is_before(rule, one, other):
        is_first = True
    elif is_before(rule, other, one):
        is_first = False
    else:
        # Ties are decided by the input.
        is_first = row.index(one) < row.index(other)
    return is_first == (result.index(one) < result.index(other))


def is_faithful(rule, row, result, pairs):
    """Whether each pair stands right in a result and each two neighbours of the result are such a pair."""
    check_rule(rule)
    check_row(rule, row)
    check_row(rule, result)
    check_pairs(rule, pairs)
    if not all([stands_right(rule, row, result, pair) for pair in pairs]):
        return False
    return all([(one, other) in pairs or (other, one) in pairs for one, other in zip(result, result[1:])])
