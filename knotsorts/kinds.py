"""Kept rows: rows that stay in a sort's order while items are added and removed."""

from knotsorts.basics import check_item, check_rule, copy_of_rule, is_item
from knotsorts.errors import HeldItem, LackingItem
from knotsorts.sorts import Asker, halving_place, insertion_place


class KeptRow:
    """A kept row."""

    def __init__(self, rule):
        check_rule(rule)
        self._rule = copy_of_rule(rule)
        self._row = []

    def add(self, item):
        """Adds an item and returns its place."""
        check_item(self._rule, item)
        if item in self._row:
            raise HeldItem(item)
        place = halving_place(Asker(self._rule), self._row, item)
        self._row.insert(place, item)
        return place

    def remove(self, item):
        """Removes an item and returns whether the others changed their order."""
        check_item(self._rule, item)
        if item not in self._row:
            raise LackingItem(item)
        place = self._row.index(item)
        others = self._row[:place] + self._row[place + 1:]
        asker = Asker(self._rule)
        row = others[:place]
        for other in others[place:]:
            row.insert(insertion_place(asker, row, other), other)
        self._row = row
        return row != others

    def __len__(self):
        return len(self._row)

    def __contains__(self, item):
        # True and the like are equal to items, but they are none.
        return is_item(len(self._rule), item) and item in self._row

    @property
    def row(self):
        """The items in their order."""
        return list(self._row)

    @property
    def rule(self):
        """The rule."""
        return copy_of_rule(self._rule)
