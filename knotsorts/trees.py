"""Search trees that are built by a rule.

Inside, a tree is written as its shape: None if it is empty, otherwise the
tuple of the shape of the left part, the root, and the shape of the right part.
"""

from knotsorts.basics import check_item, check_rule, copy_of_rule, is_before
from knotsorts.errors import HeldItem, LackingItem


def with_item(rule, shape, item):
    """The shape of a tree after an item is inserted."""
    if shape is None:
        return (None, item, None)
    left, root, right = shape
    if is_before(rule, item, root):
        return (with_item(rule, left, item), root, right)
    return (left, root, with_item(rule, right, item))


def leftmost(shape):
    """The leftmost item of a tree that is not empty."""
    left, root, _ = shape
    if left is None:
        return root
    return leftmost(left)


def without_item(shape, item):
    """The shape of a tree after an item is removed."""
    if shape is None:
        return None
    left, root, right = shape
    if root != item:
        # The rule is not asked for the way: lost items are removed likewise.
        return (without_item(left, item), root, without_item(right, item))
    if left is None:
        return right
    if right is None:
        return left
    other = leftmost(right)
    return (left, other, without_item(right, other))


def row_of(shape):
    """The row of a tree."""
    if shape is None:
        return []
    left, root, right = shape
    return row_of(left) + [root] + row_of(right)


def met_items(rule, shape, item):
    """The list of the items of a tree that are met when an item is sought."""
    met = []
    rest = shape
    while rest is not None:
        left, root, right = rest
        met = met + [root]
        if root == item:
            return met
        rest = left if is_before(rule, item, root) else right
    return met


class SearchTree:
    """A search tree."""

    def __init__(self, rule):
        check_rule(rule)
        self._rule = copy_of_rule(rule)
        self._shape = None

    def insert(self, item):
        """Inserts an item."""
        check_item(self._rule, item)
        if item in row_of(self._shape):
            raise HeldItem(item)
        self._shape = with_item(self._rule, self._shape, item)

    def remove(self, item):
        """Removes an item."""
        check_item(self._rule, item)
        if item not in row_of(self._shape):
            raise LackingItem(item)
        self._shape = without_item(self._shape, item)

    def seek(self, item):
        """The list of the items that are met when an item is sought."""
        check_item(self._rule, item)
        return met_items(self._rule, self._shape, item)

    def __len__(self):
        return len(row_of(self._shape))

    @property
    def row(self):
        """The row of the tree."""
        return row_of(self._shape)

    @property
    def lost(self):
        """The ascending list of the held items that seeking would not find now."""
        held = sorted(row_of(self._shape))
        return [item for item in held if item not in met_items(self._rule, self._shape, item)]

    @property
    def shape(self):
        """The shape of the tree."""
        return self._shape
