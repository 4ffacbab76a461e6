"""Knots and their line, rings and triangles."""

from knotsorts.basics import check_item, check_rule, is_before, may_precede


def chain_table(rule):
    """For each two items, whether a chain leads from the first to the second one."""
    items = range(len(rule))
    table = [[may_precede(rule, one, other) for other in items] for one in items]
    for middle in items:
        for one in items:
            for other in items:
                if table[one][middle] and table[middle][other]:
                    table[one][other] = True
    return table


def knots(rule):
    """The list of the knots in their line."""
    check_rule(rule)
    table = chain_table(rule)
    line = []
    left = list(range(len(rule)))
    while left:
        # Chains lead from the first of the knots left, and from no other one, to all items left.
        knot = [one for one in left if all([table[one][other] for other in left])]
        line.append(knot)
        left = [one for one in left if one not in knot]
    return line


def small_chains(rule, items):
    """The chains of one item and of two."""
    singles = [[one] for one in items]
    doubles = [[one, other] for one in items for other in items if one != other and may_precede(rule, one, other)]
    return singles + doubles


def fitting_chain(rule, around, left):
    """A place in a ring and a chain of one or two items left that fits in there."""
    for chain in small_chains(rule, left):
        for place in range(1, len(around) + 1):
            ahead = around[place - 1]
            # Behind the last item of the ring comes the first one.
            behind = around[place % len(around)]
            if may_precede(rule, ahead, chain[0]) and may_precede(rule, chain[-1], behind):
                return place, chain
    # Not reached: in a knot, such a chain fits as long as items are left.
    return None


def ring(rule, item):
    """A ring of all items of the knot of an item that begins with it, or None."""
    check_rule(rule)
    check_item(rule, item)
    table = chain_table(rule)
    left = [other for other in range(len(rule)) if other != item and table[item][other] and table[other][item]]
    if not left:
        return None
    # An item alone serves as the first ring: what fits between it and itself makes one.
    around = [item]
    while left:
        place, chain = fitting_chain(rule, around, left)
        around = around[:place] + chain + around[place:]
        left = [other for other in left if other not in chain]
    return around


def triangles(rule):
    """The ascending list of the triangles."""
    check_rule(rule)
    found = []
    for x in range(len(rule)):
        for y in range(x + 1, len(rule)):
            for z in range(x + 1, len(rule)):
                if is_before(rule, x, y) and is_before(rule, y, z) and is_before(rule, z, x):
                    found.append((x, y, z))
    return found
