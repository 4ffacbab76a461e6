"""What several modules need: the checks of arguments, and the answers of a rule."""

from knotsorts.errors import InvalidRow, InvalidRule, UnknownItem, UnknownSort


def is_whole(thing):
    """Whether a thing is a whole number."""
    # To Python, True and False are integers; to the document they are not.
    return isinstance(thing, int) and not isinstance(thing, bool)


def is_item(size, thing):
    """Whether a thing is an item of the rules of a size."""
    return is_whole(thing) and 0 <= thing < size


def is_pair(size, thing):
    """Whether a thing is a tuple of two different items."""
    if not isinstance(thing, tuple) or len(thing) != 2:
        return False
    return is_item(size, thing[0]) and is_item(size, thing[1]) and thing[0] != thing[1]


def is_row(size, thing):
    """Whether a thing is a list in which every item occurs once."""
    if not isinstance(thing, list) or len(thing) != size:
        return False
    # Only items are surely fit for a set: other things may have no hash.
    return all([is_item(size, item) for item in thing]) and len(set(thing)) == size


def is_answer(thing):
    """Whether a thing is one of the whole numbers -1, 0 and 1."""
    return is_whole(thing) and -1 <= thing <= 1


def check_rule(rule):
    """Raises InvalidRule if this is not a rule."""
    if not isinstance(rule, list) or not all([isinstance(row, list) for row in rule]):
        raise InvalidRule(None)
    size = len(rule)
    for item, row in enumerate(rule):
        if len(row) != size or not all([is_answer(answer) for answer in row]):
            raise InvalidRule(item)
    for item, row in enumerate(rule):
        for other, answer in enumerate(row):
            # For the item itself this asks for 0, the only opposite of itself.
            if answer != -rule[other][item]:
                raise InvalidRule(item)


def check_item(rule, item):
    """Raises UnknownItem if this is not an item of the rule."""
    if not is_item(len(rule), item):
        raise UnknownItem(item)


def check_row(rule, row):
    """Raises InvalidRow if this is not a row of the rule."""
    size = len(rule)
    if not isinstance(row, list) or len(row) != size:
        raise InvalidRow(None)
    for place, item in enumerate(row):
        if not is_item(size, item) or item in row[:place]:
            raise InvalidRow(place)


def check_sort(sort, names):
    """Raises UnknownSort if this is not one of the names."""
    # Other kinds of things are not compared with the names: what they would answer is not known.
    if not isinstance(sort, str) or sort not in names:
        raise UnknownSort(sort)


def copy_of_rule(rule):
    """A rule with the same answers."""
    return [list(answers) for answers in rule]


def is_before(rule, one, other):
    """Whether one item is before another one."""
    return rule[one][other] == -1


def items_behind(rule, one):
    """The ascending list of the items that an item is before."""
    return [other for other in range(len(rule)) if is_before(rule, one, other)]


def may_precede(rule, one, other):
    """Whether one item may precede another one."""
    return rule[one][other] != 1


def with_the_others(rule, row):
    """A row that begins with these items."""
    return row + [item for item in range(len(rule)) if item not in row]
