"""Rearrangements of trees for the tests, and a second reading of points 55 to 57."""

import itertools
import random

from tests.plain_trees import (BACKWARDS_40, COMB_40, PATH_40, STAR_40, all_shapes, all_trees, numbered, plain_heap,
                               plain_log, plain_root, random_tree)
from tests.release_trees import child_towards, is_above, is_near, meeting_node
from tests.support import Model

GREAT = 10 ** 30
BUSHY_40 = tuple(tuple(range(3 * v + 1, min(3 * v + 4, 40))) for v in range(40))
SIXES = (tuple(range(1, 7)),) + tuple(tuple(range(5 * v + 2, 5 * v + 7)) for v in range(1, 7)) + ((),) * 30
TREES_40 = [PATH_40, STAR_40, BACKWARDS_40, COMB_40, BUSHY_40] + [random_tree(seed, 40, 40) for seed in range(8)]


def rearrangements(tree):
    """All trees in which every node has the same children."""
    return list(itertools.product(*[list(itertools.permutations(row)) for row in tree]))


def possible_swaps(tree):
    return [(v, i, j) for v in range(len(tree)) for i, j in itertools.combinations(range(len(tree[v])), 2)]


def swapped(tree, *swaps):
    """The tree after the swaps, one after another."""
    rows = [list(row) for row in tree]
    for v, i, j in swaps:
        rows[v][i], rows[v][j] = rows[v][j], rows[v][i]
    return tuple(tuple(row) for row in rows)


def distances(tree):
    """For each rearrangement, how many swaps lead to it at least: a search, swap by swap."""
    found = {tree: 0}
    edge = [tree]
    while edge:
        reached = []
        for one in edge:
            for swap in possible_swaps(one):
                other = swapped(one, swap)
                if other not in found:
                    found[other] = found[one] + 1
                    reached.append(other)
        edge = reached
    return found


def entries(tree):
    """The tree as a release tree: the parent and the slot of each node."""
    found = [()] * len(tree)
    for v, row in enumerate(tree):
        for slot, child in enumerate(row):
            found[child] = (v, slot)
    return tuple(found)


def plain_forced(tree, wanted, limit):
    """The one rearrangement whose log has the children of each node in the wanted order."""
    placed = entries(tree)
    rows = []
    for v, row in enumerate(tree):
        row = sorted(row, key=wanted.index)
        if row and not is_near(placed, row[0], v, limit):
            row.reverse()
        rows.append(tuple(row))
    return tuple(rows)


def bar_case(tree, wanted, first, second, limit):
    """Which of the three cases of point 56 holds for the two nodes, None if none does."""
    placed = entries(tree)
    if first == second or is_above(placed, first, second):
        return None
    if is_above(placed, second, first):
        return 1
    meeting = meeting_node(placed, first, second)
    near = (is_near(placed, first, meeting, limit), is_near(placed, second, meeting, limit))
    if near == (False, True):
        return 2
    if near == (True, False):
        return None
    return 3 if forced_is_before(tree, wanted, meeting, first, second, limit) else None


def forced_is_before(tree, wanted, meeting, first, second, limit):
    """True if the second node comes before the first one in the log of the forced tree."""
    forced = entries(plain_forced(tree, wanted, limit))
    slots = [forced[child_towards(forced, meeting, v)][1] for v in (first, second)]
    near = is_near(forced, first, meeting, limit)
    return slots[1] < slots[0] if near else slots[1] > slots[0]


def plain_peak(tree, limit):
    """The greatest length of the shelf, read off the second machine."""
    return Model(plain_heap(tree), limit).drop(plain_root(tree)).peak


def logs_of_all(tree, limit):
    """The rearrangement for each log that one has."""
    return {plain_log(other, limit): other for other in rearrangements(tree)}


def fewest(tree, forced):
    """The number of children less the number of circles in which they change places."""
    total = 0
    for row, goal in zip(tree, forced):
        follow = dict(zip(row, goal))
        while follow:
            _, at = follow.popitem()
            while at in follow:
                at = follow.pop(at)
                total += 1
    return total


def limits_for(n):
    return sorted({1, 2, 3, n, GREAT})


def orders(n):
    return list(itertools.permutations(range(n)))


def small_cases():
    """Every tree of up to 4 nodes, every shape of 5, each with every wanted log and several limits."""
    for n in range(1, 5):
        for tree in all_trees(n):
            for wanted in orders(n):
                for limit in limits_for(n):
                    yield tree, wanted, limit
    for shape in all_shapes(5):
        tree = numbered(shape, [2, 0, 4, 3, 1])
        for wanted in orders(5):
            for limit in limits_for(5):
                yield tree, wanted, limit


def great_cases():
    """Trees of 40 nodes with logs of other rearrangements, changed ones and others."""
    for seed, tree in enumerate(TREES_40 + [SIXES]):
        chance = random.Random(seed)
        n = len(tree)
        mixed = tuple(tuple(chance.sample(row, len(row))) for row in tree)
        for limit in (1, 2, 3, 5, 39, 40, GREAT):
            log = plain_log(mixed, limit)
            at, other = chance.sample(range(n), 2)
            changed = list(log)
            changed[at], changed[other] = changed[other], changed[at]
            for wanted in [log, plain_log(tree, limit), tuple(changed), tuple(chance.sample(range(n), n)),
                           tuple(range(n))]:
                yield tree, wanted, limit
