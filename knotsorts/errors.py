"""The errors that the functions and classes of the package raise.

The messages are fixed texts: what was passed may be of any kind, and some
values cannot be written out as a text.
"""


class InvalidRule(ValueError):
    """No rule; `item` is the first wrong item, or None for no list of lists."""

    def __init__(self, item):
        ValueError.__init__(self, "this is not a rule")
        self.item = item


class UnknownItem(LookupError):
    """No item of the rule; `item` is what was passed."""

    def __init__(self, item):
        LookupError.__init__(self, "this is not an item of the rule")
        self.item = item


class HeldItem(ValueError):
    """An item that is held already; `item` is what was passed."""

    def __init__(self, item):
        ValueError.__init__(self, "this item is held already")
        self.item = item


class LackingItem(LookupError):
    """An item that is not held; `item` is what was passed."""

    def __init__(self, item):
        LookupError.__init__(self, "this item is not held")
        self.item = item


class InvalidRow(ValueError):
    """No row of the rule; `place` is the first wrong place, or None."""

    def __init__(self, place):
        ValueError.__init__(self, "this is not a row of the rule")
        self.place = place


class InvalidSize(ValueError):
    """No number of items from 0 to 12; `size` is what was passed."""

    def __init__(self, size):
        ValueError.__init__(self, "the size is not a whole number from 0 to 12")
        self.size = size


class InvalidPairs(ValueError):
    """No list of pairs; `index` is the number of the first wrong one, or None."""

    def __init__(self, index):
        ValueError.__init__(self, "this is not a list of pairs of different items")
        self.index = index


class InvalidNumbers(ValueError):
    """No list of numbers; `index` is the number of the first wrong one, or None."""

    def __init__(self, index):
        ValueError.__init__(self, "this is not a list of at most 12 whole numbers")
        self.index = index


class InvalidBallots(ValueError):
    """No list of ballots; `index` is the number of the first wrong one, or None."""

    def __init__(self, index):
        ValueError.__init__(self, "this is not a list of lists of all items")
        self.index = index


class InvalidItems(ValueError):
    """No list of items; `index` is the number of the first wrong one, or None."""

    def __init__(self, index):
        ValueError.__init__(self, "this is not a list of one or more items")
        self.index = index


class InvalidTolerance(ValueError):
    """No whole number from 0 on; `tolerance` is what was passed."""

    def __init__(self, tolerance):
        ValueError.__init__(self, "the tolerance is not a whole number from 0 on")
        self.tolerance = tolerance


class InvalidText(ValueError):
    """No text of a rule; `line` is the number of the first wrong line."""

    def __init__(self, line):
        ValueError.__init__(self, "this is not the text of a rule")
        self.line = line


class UnknownSort(LookupError):
    """No name of a sort; `name` is what was passed."""

    def __init__(self, name):
        LookupError.__init__(self, "this is not the name of a sort")
        self.name = name


class TooMany(ValueError):
    """More than may be listed; `count` is how many there are."""

    def __init__(self, count):
        ValueError.__init__(self, "these are too many")
        self.count = count
