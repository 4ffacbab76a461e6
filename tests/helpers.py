"""Rules to test with, and what the document says, looked up in the plainest way."""

import itertools
import random

RING = [[0, -1, 1], [1, 0, -1], [-1, 1, 0]]
# Things of every kind that a caller may pass, none of which is a whole number or a list.
ODD_THINGS = [None, True, False, "", "0", "ab", (), (0, 1), 1.0, {}, {0: 1}, set(), b"0", object()]


def rule_from(size, answers):
    """The rule with these answers about the pairs of items, in ascending order."""
    rule = [[0] * size for _ in range(size)]
    for (one, other), answer in zip(itertools.combinations(range(size), 2), answers):
        rule[one][other] = answer
        rule[other][one] = -answer
    return rule


def all_rules(size):
    pairs = size * (size - 1) // 2
    return [rule_from(size, answers) for answers in itertools.product((-1, 0, 1), repeat=pairs)]


def random_rule(size, seed, answers=(-1, 0, 1)):
    chance = random.Random(seed)
    return rule_from(size, [chance.choice(answers) for _ in range(size * (size - 1) // 2)])


def some_rules():
    """All rules of up to 4 items, and rules of up to 12 items, with many ties, few and none."""
    rules = [rule for size in range(5) for rule in all_rules(size)]
    for size in range(5, 13):
        for seed in range(6):
            rules.append(random_rule(size, seed))
            rules.append(random_rule(size, seed, (-1, 1)))
            rules.append(random_rule(size, seed, (-1, 0, 0, 0, 1)))
            rules.append(random_rule(size, seed, (-1, -1, -1, -1, -1, 0)))
            rules.append(random_rule(size, seed, (1, 1, 1, 1, 1, -1)))
    return rules


def before(rule, one, other):
    return rule[one][other] == -1


def may_precede(rule, one, other):
    return not before(rule, other, one)


def reached(rule, start):
    """The items to which a chain leads from an item, each of which may precede the next one."""
    found = {start}
    todo = [start]
    while todo:
        one = todo.pop()
        for other in range(len(rule)):
            if other not in found and may_precede(rule, one, other):
                found.add(other)
                todo.append(other)
    return found


def knot_of(rule, item):
    return sorted(other for other in reached(rule, item) if item in reached(rule, other))


def lists_within(thing):
    """All list objects in a thing, itself among them, each as often as it occurs."""
    found = [thing] if isinstance(thing, list) else []
    if isinstance(thing, (list, tuple)):
        for part in thing:
            found.extend(lists_within(part))
    return found


def tuples_of(thing):
    """A thing with tuples for its lists, to keep what it was and to look it up."""
    if isinstance(thing, (list, tuple)):
        return tuple(tuples_of(part) for part in thing)
    return thing


def caught(kind, call, *args, **more):
    """The error of exactly this kind that a call raises."""
    try:
        call(*args, **more)
    except kind as error:
        assert error.__class__ is kind, error
        return error
    raise AssertionError(f"{call.__name__}{args}{more} raised no {kind.__name__}")
