"""Searching a row by halves."""

from knotsorts.basics import check_item, check_row, check_rule, is_before


def looked_places(rule, row, item):
    """The list of the places at which the search for an item looks."""
    places = []
    low = 0
    high = len(row)
    while low < high:
        middle = (low + high) // 2
        places.append(middle)
        if row[middle] == item:
            return places
        if is_before(rule, item, row[middle]):
            high = middle
        else:
            low = middle + 1
    return places


def found_place(rule, row, item):
    """The place at which the search finds an item, or None."""
    # A row is never searched without a look, since the rule has the item.
    place = looked_places(rule, row, item)[-1]
    if row[place] != item:
        return None
    return place


def check_search(rule, row, item):
    """Raises the errors of a rule, a row and an item."""
    check_rule(rule)
    check_row(rule, row)
    check_item(rule, item)


def looked_at(rule, row, item):
    """The list of the places at which the search for an item looks, in the order in which it looks at them."""
    check_search(rule, row, item)
    return looked_places(rule, row, item)


def found_at(rule, row, item):
    """The place at which the search finds an item, or None if it does not."""
    check_search(rule, row, item)
    return found_place(rule, row, item)


def found_items(rule, row):
    """The ascending list of the items that the search finds."""
    check_rule(rule)
    check_row(rule, row)
    return [item for item in range(len(rule)) if found_place(rule, row, item) is not None]
