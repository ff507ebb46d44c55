"""Release trees for the tests, and a second reading of points 9 to 11."""

import itertools
import random

from tests.support import Model

LONE = ((),)
NO_NODE = (None, None, None)
BRANCHES = ((), (0, 0), (0, 1), (1, 0), (2, 0))
SCATTERED = (None, (4, 3), None, (1, 0), (), None, (4, 1), (1, 39), None, (3, 2))
PATH_40 = ((),) + tuple((v, v % 3) for v in range(39))
BACKWARDS_40 = tuple((v + 1, 39 - v) for v in range(39)) + ((),)
STAR_40 = ((),) + tuple((0, 39 - v) for v in range(39))
BINARY_40 = ((),) + tuple(((v - 1) // 2, v % 2) for v in range(1, 40))
COMB_40 = ((),) + tuple((v - 1 if v % 2 else v - 2, v % 2) for v in range(1, 40))

ROOT_LAST = (None, (2, 1), (3, 0), (4, 5), ())

SMALL_TREES = [LONE, NO_NODE, (), (None, (), None), BRANCHES, SCATTERED, ROOT_LAST, BINARY_40[:15], COMB_40[:14],
               PATH_40[:9], STAR_40[:8]]
GREAT_TREES = [PATH_40, BACKWARDS_40, STAR_40, BINARY_40, COMB_40]


def random_tree(seed, most=10, width=4):
    """A release tree that depends on the seed only; some of its n entries may be None."""
    chance = random.Random(seed)
    n = chance.randint(1, most)
    nodes = chance.sample(range(n), chance.randint(1, n))
    tree = [None] * n
    tree[nodes[0]] = ()
    free = [(nodes[0], slot) for slot in range(width)]
    for v in nodes[1:]:
        # Late entries stand for deep nodes: most trees should be deeper than their limits.
        at = max(chance.randrange(len(free)), chance.randrange(len(free)))
        tree[v] = free.pop(at)
        free += [(v, slot) for slot in range(width)]
    return tuple(tree)


def nodes_of(tree):
    return [v for v in range(len(tree)) if tree[v] is not None]


def plain_depth(tree, v):
    return 0 if tree[v] == () else 1 + plain_depth(tree, tree[v][0])


def is_above(tree, v, w):
    """True if v is above w."""
    return tree[w] != () and (tree[w][0] == v or is_above(tree, v, tree[w][0]))


def is_near(tree, v, w, limit):
    """True if v, a node below w, is near to w."""
    depth = plain_depth(tree, w)
    multiple = next(m for m in itertools.count(limit, limit) if m > depth)
    return plain_depth(tree, v) < multiple


def child_towards(tree, w, v):
    """The child of w that is v or is above v."""
    return next(c for c in nodes_of(tree) if tree[c] != () and tree[c][0] == w and (c == v or is_above(tree, c, v)))


def meeting_node(tree, v, w):
    above = [u for u in nodes_of(tree) if is_above(tree, u, v) and is_above(tree, u, w)]
    return max(above, key=lambda u: plain_depth(tree, u))


def plain_node_before(tree, v, w, limit):
    """Point 10, clause by clause."""
    if v == w or is_above(tree, w, v):
        return False
    if is_above(tree, v, w):
        return True
    meeting = meeting_node(tree, v, w)
    near = [is_near(tree, v, meeting, limit), is_near(tree, w, meeting, limit)]
    if near == [True, False]:
        return True
    if near == [False, True]:
        return False
    v_slot, w_slot = [tree[child_towards(tree, meeting, u)][1] for u in (v, w)]
    return v_slot < w_slot if near == [True, True] else v_slot > w_slot


def plain_slot_before(tree, one, other, limit):
    """Point 11, clause by clause."""
    (a, i), (b, j) = one, other
    if a == b:
        return i < j
    if is_above(tree, a, b):
        s = tree[child_towards(tree, a, b)][1]
        return not is_near(tree, b, a, limit) or i <= s
    if is_above(tree, b, a):
        return not plain_slot_before(tree, other, one, limit)
    return plain_node_before(tree, a, b, limit)


def plain_release_tree(heap, node, limit):
    """The release tree that the second machine's releases tell."""
    tree = [None] * len(heap[0])
    for event in Model(heap, limit).drop(node).events:
        if event[0] == "release" and event[4] == 0:
            tree[event[3]] = () if event[1] is None else event[1:3]
    return tuple(tree)
