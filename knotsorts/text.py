"""Rules as text."""

from knotsorts.basics import check_rule
from knotsorts.errors import InvalidText
from knotsorts.rules import MOST_ITEMS, square_of_zeros

# The signs for the answers -1, 0 and 1.
SIGNS = "<=>"


def item_pairs(size):
    """The ascending list of the pairs of items of which the first one is less than the second one."""
    return [(x, y) for x in range(size) for y in range(x + 1, size)]


def pair_line(x, y, answer):
    """The line that tells the answer about two items."""
    return f"{x} {SIGNS[answer + 1]} {y}"


def format_rule(rule):
    """The text of a rule."""
    check_rule(rule)
    lines = [pair_line(x, y, rule[x][y]) for x, y in item_pairs(len(rule))]
    return "\n".join([str(len(rule))] + lines)


def parse_size(line):
    """The number of items that a first line tells, or None if it is not written in this way."""
    for size in range(MOST_ITEMS + 1):
        if line == str(size):
            return size
    return None


def parse_answer(line, x, y):
    """The answer about two items that a line tells, or None if it is not written in this way."""
    for answer in (-1, 0, 1):
        if line == pair_line(x, y, answer):
            return answer
    return None


def parse_rule(text):
    """The rule that a text writes."""
    if not isinstance(text, str):
        raise InvalidText(0)
    lines = text.split("\n")
    size = parse_size(lines[0])
    if size is None:
        raise InvalidText(0)
    rule = square_of_zeros(size)
    pairs = item_pairs(size)
    for number, (x, y) in enumerate(pairs, 1):
        answer = parse_answer(lines[number], x, y) if number < len(lines) else None
        if answer is None:
            raise InvalidText(number)
        rule[x][y] = answer
        rule[y][x] = -answer
    if len(lines) > len(pairs) + 1:
        raise InvalidText(len(pairs) + 1)
    return rule
