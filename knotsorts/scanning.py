"""Scanning lists of items: which items are kept, and inputs that keep a wanted item."""

from knotsorts.basics import check_item, check_rule, is_before, is_item, items_behind
from knotsorts.errors import InvalidItems
from knotsorts.parts import part_of


def check_items(rule, items):
    """Raises InvalidItems if this is not a list of one or more items."""
    if not isinstance(items, list) or len(items) == 0:
        raise InvalidItems(None)
    for index, item in enumerate(items):
        if not is_item(len(rule), item):
            raise InvalidItems(index)


def scan(rule, items):
    """The list of the items that are kept one after the other when a list of items is scanned."""
    check_rule(rule)
    check_items(rule, items)
    kept = [items[0]]
    for item in items[1:]:
        if is_before(rule, item, kept[-1]):
            kept.append(item)
    return kept


def is_guarded(rule, chain):
    """Whether no item is before all items of a chain."""
    return not any([all([is_before(rule, one, item) for item in chain]) for one in range(len(rule))])


def longer_chains(rule, chain):
    """The chains that are longer than this one by an item that its last item is before."""
    return [chain + [item] for item in items_behind(rule, chain[-1]) if item not in chain]


def guarded_chain(rule, item):
    """A guarded chain of different items from an item on, each before the next one, or None if there is none."""
    chains = [[item]]
    met = {}
    while chains:
        chain = chains.pop(0)
        if is_guarded(rule, chain):
            return chain
        for longer in longer_chains(rule, chain):
            # How the chain can go on, and what guards it, is the same for another order of its inner items.
            key = (part_of(longer), longer[-1])
            if key not in met:
                met[key] = True
                chains.append(longer)
    return None


def input_keeping(rule, item):
    """An input, a row, for which an item is kept at the end, or None if there is none."""
    check_rule(rule)
    check_item(rule, item)
    chain = guarded_chain(rule, item)
    if chain is None:
        return None
    row = []
    left = [other for other in range(len(rule)) if other not in chain]
    for kept in reversed(chain[1:]):
        harmless = [other for other in left if not is_before(rule, other, kept)]
        row = row + [kept] + harmless
        left = [other for other in left if other not in harmless]
    # Those left are before all other items of the chain; so, as it is guarded, not before this one.
    return row + [item] + left
