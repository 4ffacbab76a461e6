"""Rules to test with, and what the document says, looked up in the plainest way."""

import inspect
import itertools
import random

RING = [[0, -1, 1], [1, 0, -1], [-1, 1, 0]]
# Things of every kind that a caller may pass, none of which is a whole number or a list.
ODD_THINGS = [None, True, False, "", "0", "ab", (), (0, 1), 1.0, {}, {0: 1}, set(), b"0", object()]


def rule_from(size, answers):
    """The rule with these answers about the pairs of items, in ascending order."""
    rule = [[0] * size for _ in range(size)]
    for (one, other), answer in zip(itertools.combinations(range(size), 2), answers):
        rule[one][other] = answer
        rule[other][one] = -answer
    return rule


def all_rules(size):
    pairs = size * (size - 1) // 2
    return [rule_from(size, answers) for answers in itertools.product((-1, 0, 1), repeat=pairs)]


def random_rule(size, seed, answers=(-1, 0, 1)):
    chance = random.Random(seed)
    return rule_from(size, [chance.choice(answers) for _ in range(size * (size - 1) // 2)])


def some_rules(most=12, seeds=6):
    """All rules of up to 4 items, and rules of more of them, with many ties, few and none."""
    rules = [rule for size in range(5) for rule in all_rules(size)]
    for size in range(5, most + 1):
        for seed in range(seeds):
            rules.append(random_rule(size, seed))
            rules.append(random_rule(size, seed, (-1, 1)))
            rules.append(random_rule(size, seed, (-1, 0, 0, 0, 1)))
            rules.append(random_rule(size, seed, (-1, -1, -1, -1, -1, 0)))
            rules.append(random_rule(size, seed, (1, 1, 1, 1, 1, -1)))
    return rules


def one_after_the_other(rules):
    """The rule made of the items of some rules: each is before all items of later rules."""
    size = sum(len(rule) for rule in rules)
    whole = [[(x > y) - (x < y) for y in range(size)] for x in range(size)]
    start = 0
    for rule in rules:
        for item, row in enumerate(rule):
            whole[start + item][start:start + len(rule)] = row
        start += len(rule)
    return whole


def three_groups(seed):
    """A rule of twelve items in three groups: two items of different groups are answered as the groups of RING."""
    rule = random_rule(12, seed)
    for one, other in itertools.combinations(range(12), 2):
        if one // 4 != other // 4:
            rule[one][other] = RING[one // 4][other // 4]
            rule[other][one] = -rule[one][other]
    return rule


def long_ring():
    """The rule of twelve items of which each is before the next one and behind all later ones."""
    pairs = itertools.combinations(range(12), 2)
    return rule_from(12, [-1 if other == one + 1 else 1 for one, other in pairs])


def all_rows(size):
    return [list(row) for row in itertools.permutations(range(size))]


def some_rows(size, seed, many=20):
    """All rows of a size, or some of them if they are many."""
    if size <= 4:
        return all_rows(size)
    chance = random.Random(seed)
    return [chance.sample(range(size), size) for _ in range(many)]


def before(rule, one, other):
    return rule[one][other] == -1


def may_precede(rule, one, other):
    return not before(rule, other, one)


def is_path(rule, row):
    return all(may_precede(rule, one, other) for one, other in zip(row, row[1:]))


def all_paths(rule):
    return [row for row in all_rows(len(rule)) if is_path(rule, row)]


def wrong_of(rule, row):
    """The wrong pairs of a row, looked up for each two items."""
    items = itertools.product(range(len(rule)), repeat=2)
    return [(x, y) for x, y in items if row.index(x) < row.index(y) and before(rule, y, x)]


def noted(rule, asked, x, y):
    """Whether an item is before another one; what is asked is put into a list, if there is one."""
    if asked is not None:
        asked.append((x, y))
    return before(rule, x, y)


def by_insertion(rule, row, asked=None):
    result = []
    for x in row:
        place = len(result)
        while place > 0 and noted(rule, asked, x, result[place - 1]):
            place -= 1
        result.insert(place, x)
    return result


def by_halving(rule, row, asked=None):
    result = []
    for x in row:
        low, high = 0, len(result)
        while low < high:
            middle = (low + high) // 2
            if noted(rule, asked, x, result[middle]):
                high = middle
            else:
                low = middle + 1
        result.insert(low, x)
    return result


def by_merging(rule, row, asked=None):
    if len(row) <= 1:
        return list(row)
    one = by_merging(rule, row[:len(row) // 2], asked)
    other = by_merging(rule, row[len(row) // 2:], asked)
    result = []
    while one and other:
        result.append((other if noted(rule, asked, other[0], one[0]) else one).pop(0))
    return result + one + other


def by_parting(rule, row, asked=None):
    if len(row) <= 1:
        return list(row)
    pivot, *others = row
    told = [noted(rule, asked, x, pivot) for x in others]
    ahead = by_parting(rule, [x for x, is_before in zip(others, told) if is_before], asked)
    behind = by_parting(rule, [x for x, is_before in zip(others, told) if not is_before], asked)
    return ahead + [pivot] + behind


def by_choosing(rule, row, asked=None):
    left, result = list(row), []
    while left:
        kept = left[0]
        for x in left[1:]:
            if noted(rule, asked, x, kept):
                kept = x
        left.remove(kept)
        result.append(kept)
    return result


def by_bubbling(rule, row, asked=None):
    result = list(row)
    for last in reversed(range(1, len(row))):
        for k in range(last):
            x, y = result[k:k + 2]
            if noted(rule, asked, y, x):
                result[k:k + 2] = [y, x]
    return result


def by_heaping(rule, row, asked=None):
    def settle(i):
        while 2 * i + 1 < len(left):
            child = 2 * i + 1
            if 2 * i + 2 < len(left) and noted(rule, asked, left[2 * i + 2], left[child]):
                child = 2 * i + 2
            if not noted(rule, asked, left[child], left[i]):
                break
            left[child], left[i] = left[i], left[child]
            i = child

    left, result = list(row), []
    for i in reversed(range(len(row) // 2)):
        settle(i)
    while left:
        result.append(left[0])
        last = left.pop()
        if left:
            left[0] = last
        settle(0)
    return result


# The seven sorts, and the six of them that are faithful.
BY_HAND = {
    "insertion": by_insertion, "halving": by_halving, "merging": by_merging, "parting": by_parting,
    "choosing": by_choosing, "bubbling": by_bubbling, "heaping": by_heaping,
}
FAITHFUL = [name for name in BY_HAND if name != "heaping"]
# The three sorts for which it is told what is sure.
SURE_SORTS = {name: BY_HAND[name] for name in ("insertion", "parting", "choosing")}
# Things that are no names of sorts.
NO_SORTS = ODD_THINGS + [
    "Insertion", " insertion", "insertion ", "insert", "sorting", [], ["insertion"], 0, b"parting", ("parting",),
    {"choosing"}, {"heaping": 1},
]


def results_by_hand(rule, name):
    """The ascending list of the results of a sort for all inputs, each once."""
    return sorted({tuple(BY_HAND[name](rule, row)) for row in all_rows(len(rule))})


def part_of(rule, items):
    """The rule of some of the items, numbered anew in the order in which they are given."""
    return [[rule[x][y] for y in items] for x in items]


def rule_of_row(row):
    """The rule in which each item of a row is before all behind it."""
    return [[(row.index(x) > row.index(y)) - (row.index(x) < row.index(y)) for y in range(len(row))]
            for x in range(len(row))]


def without_ties(rule, row):
    """A rule with each tie replaced by the answer that puts the item first which stands first in a row."""
    instead = rule_of_row(row)
    return [[rule[x][y] or instead[x][y] for y in range(len(rule))] for x in range(len(rule))]


def has_ring_of_answers(rule):
    """Whether there are items each of which is before the next one and the last one before the first one."""
    left = set(range(len(rule)))
    while left:
        fit = {x for x in left if not any(before(rule, y, x) for y in left)}
        if not fit:
            return True
        left -= fit
    return False


def number_rule(numbers, tolerance=0):
    """The rule from numbers with a tolerance."""
    return [[(x > y + tolerance) - (x + tolerance < y) for y in numbers] for x in numbers]


def telling_rules():
    """Orders, numbers with a tolerance, rings and knots in a line, of five to twelve items."""
    chance = random.Random(7)
    rules = [long_ring(), three_groups(1), three_groups(2), one_after_the_other([RING] * 4)]
    rules += [[[0] * 12 for _ in range(12)], one_after_the_other([[[0, 0], [0, 0]], RING, random_rule(7, 3)])]
    for size in range(5, 13):
        rules.append(number_rule(chance.sample(range(size), size)))
        rules.append(number_rule([chance.randrange(4) for _ in range(size)]))
        rules.append(number_rule([chance.randrange(3 * size) for _ in range(size)], 4))
        # A partial order: an item is before another one if all of its numbers are less.
        pairs = [(chance.random(), chance.random()) for _ in range(size)]
        rules.append([[all(a > b for a, b in zip(x, y)) - all(a < b for a, b in zip(x, y)) for y in pairs]
                      for x in pairs])
    return rules


def some_cases(most=12, seeds=3, many=4):
    """Rules, each with some rows of it."""
    rules = some_rules(most, seeds) + [rule for rule in telling_rules() if len(rule) <= most]
    for number, rule in enumerate(rules):
        rows = some_rows(len(rule), number, many)
        if len(rule) == 4:
            rows = random.Random(number).sample(rows, many)
        for row in rows:
            yield rule, row


def reached(rule, start):
    """The items to which a chain leads from an item, each of which may precede the next one."""
    found = {start}
    todo = [start]
    while todo:
        one = todo.pop()
        for other in range(len(rule)):
            if other not in found and may_precede(rule, one, other):
                found.add(other)
                todo.append(other)
    return found


def knot_of(rule, item):
    return sorted(other for other in reached(rule, item) if item in reached(rule, other))


# Things that are no rows of a rule of three items, with the field of their error.
BAD_ROWS = [(thing, None) for thing in ODD_THINGS] + [
    (3, None), ("012", None), ((0, 1, 2), None), ({0: 0, 1: 1, 2: 2}, None), ([], None), ([0, 1], None),
    ([0, 1, 2, 2], None), ([0, 1, 2, 3], None), ([True, True], None), ([5], None),
    ([0, 1, 1], 2), ([0, 0, 1], 1), ([2, 2, 9], 1), ([0, 1, 0], 2), ([0, 1, 3], 2), ([3, 3, 3], 0), ([-1, 0, 1], 0),
    ([0, -1, 1], 1), ([True, 0, 2], 0), ([0, True, 2], 1), ([2, 1, False], 2), ([0, 1, None], 2), ([0, [1], 2], 1),
    ([0, 1, 2.0], 2), ([0, 1, "2"], 2), ([0, {}, set()], 1), ([10 ** 5000, 1, 2], 0), ([None, 1, 1], 0),
]


def answer(call, *args, **more):
    """What a call returns, and for a generator the list of what it yields."""
    told = call(*args, **more)
    return list(told) if inspect.isgenerator(told) else told


def lists_within(thing):
    """All list objects in a thing, itself among them, each as often as it occurs."""
    found = [thing] if isinstance(thing, list) else []
    if isinstance(thing, (list, tuple)):
        for part in thing:
            found.extend(lists_within(part))
    return found


def tuples_of(thing):
    """A thing with tuples for its lists, to keep what it was and to look it up."""
    if isinstance(thing, (list, tuple)):
        return tuple(tuples_of(part) for part in thing)
    return thing


def caught(kind, call, *args, **more):
    """The error of exactly this kind that a call raises."""
    try:
        call(*args, **more)
    except kind as error:
        assert error.__class__ is kind, error
        return error
    raise AssertionError(f"{call.__name__}{args}{more} raised no {kind.__name__}")
