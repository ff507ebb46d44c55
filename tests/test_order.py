"""Points 9 to 11 and 29 to 32: depths, the node order and the slot order of release trees."""

import functools
import itertools
import unittest

from slotfall.errors import NotFreed
from slotfall.order import depths, node_before, slot_before, tree_log
from tests.release_trees import (BACKWARDS_40, BINARY_40, BRANCHES, COMB_40, GREAT_TREES, LONE, NO_NODE, PATH_40,
                                 ROOT_LAST, SCATTERED, SMALL_TREES, STAR_40, nodes_of, plain_depth, plain_node_before,
                                 plain_slot_before, random_tree)
from tests.support import NO_NODES, StrictCase

GREAT = 10 ** 30
RANDOM_TREES = [random_tree(seed) for seed in range(40)]
# The root 0 has children 1, 2, 3 in the slots 0, 1, 2; below 2 hang 4 and 5, below 4 hangs 6, below 3 hangs 7.
FAMILY = ((), (0, 0), (0, 1), (0, 2), (2, 3), (2, 5), (4, 0), (3, 0))


def limits_for(tree):
    return [1, 2, 3, max(1, len(tree)), GREAT]


def preorder(tree, v, step):
    children = sorted(((tree[w][1], w) for w in nodes_of(tree) if tree[w] and tree[w][0] == v), reverse=step < 0)
    return [v] + [u for _, w in children for u in preorder(tree, w, step)]


class DepthsTest(StrictCase):
    def test_example(self):
        self.check(depths(((), (0, 1), None, (1, 0))), (0, 1, None, 2))

    def test_edges(self):
        self.check(depths(()), ())
        self.check(depths(NO_NODE), (None, None, None))
        self.check(depths((None,) * 40), (None,) * 40)
        self.check(depths(LONE), (0,))
        self.check(depths((None, (), None)), (None, 0, None))
        self.check(depths(PATH_40), tuple(range(40)))
        self.check(depths(BACKWARDS_40), tuple(range(39, -1, -1)))
        self.check(depths(tree=STAR_40), (0,) + (1,) * 39)
        self.check(depths(BINARY_40), (0,) + (1,) * 2 + (2,) * 4 + (3,) * 8 + (4,) * 16 + (5,) * 9)
        self.check(depths(SCATTERED), (None, 1, None, 2, 0, None, 1, 2, None, 3))
        self.check(depths(ROOT_LAST), (None, 3, 2, 1, 0))

    def test_by_the_definition(self):
        for tree in SMALL_TREES + GREAT_TREES + RANDOM_TREES:
            self.check(depths(tree), tuple(None if tree[v] is None else plain_depth(tree, v) for v in range(len(tree))))


class NodeBeforeTest(StrictCase):
    def test_example(self):
        found = [node_before(BRANCHES, v, w, limit=2) for v, w in [(1, 2), (2, 3), (3, 4)]]
        self.check(found, [True, True, False])
        self.fails(NotFreed, {"node": 1}, node_before, ((), None), 0, 1, limit=2)

    def expect(self, tree, limit, first, second):
        """The first node comes before the second one, and not the other way round."""
        self.check(node_before(tree, first, second, limit=limit), True)
        self.check(node_before(tree=tree, first=second, second=first, limit=limit), False)

    def test_above(self):
        for limit in (1, 2, 3, 8, GREAT):
            for first, second in [(0, 1), (0, 6), (2, 4), (2, 6), (4, 6), (3, 7)]:
                self.expect(FAMILY, limit, first, second)

    def test_both_near(self):
        self.expect(FAMILY, 2, 1, 2)
        self.expect(FAMILY, 2, 1, 3)
        for limit in (4, 8, GREAT):
            for first, second in [(1, 2), (2, 3), (1, 4), (4, 3), (5, 7), (4, 5), (1, 7)]:
                self.expect(FAMILY, limit, first, second)
        # With the limit 3, node 2 of depth 1 and its children of depth 2 have the same next multiple.
        self.expect(FAMILY, 3, 4, 5)

    def test_one_near_and_one_far(self):
        self.expect(FAMILY, 2, 1, 4)
        self.expect(FAMILY, 2, 3, 4)
        self.expect(FAMILY, 2, 3, 6)
        self.expect(FAMILY, 2, 1, 7)
        self.expect(FAMILY, 3, 3, 6)
        self.expect(FAMILY, 3, 5, 6)

    def test_both_far(self):
        for first, second in [(3, 2), (2, 1), (3, 1), (7, 4), (5, 4), (5, 6), (3, 6)]:
            self.expect(FAMILY, 1, first, second)
        self.expect(FAMILY, 2, 7, 4)
        self.expect(FAMILY, 2, 7, 6)
        # Their meeting node 2 has depth 1, so that its children of depth 2 are far from it.
        self.expect(FAMILY, 2, 5, 4)
        self.expect(FAMILY, 2, 5, 6)

    def test_a_node_and_itself(self):
        for tree in SMALL_TREES + GREAT_TREES:
            for v in nodes_of(tree):
                for limit in limits_for(tree):
                    self.check(node_before(tree, v, v, limit=limit), False)

    def test_every_pair(self):
        for tree in SMALL_TREES + RANDOM_TREES:
            for v, w in itertools.product(nodes_of(tree), repeat=2):
                for limit in limits_for(tree):
                    self.check(node_before(tree, v, w, limit=limit), plain_node_before(tree, v, w, limit))

    def test_pairs_of_great_trees(self):
        for tree in GREAT_TREES:
            for v, w in itertools.product(range(0, 40, 3), range(1, 40, 4)):
                for limit in [1, 2, 3, 40, GREAT]:
                    self.check(node_before(tree, v, w, limit=limit), plain_node_before(tree, v, w, limit))

    def test_not_freed(self):
        for tree, missing in [(SCATTERED, [0, 2, 5, 8, 10]), (NO_NODE, [0, 1, 2, 3]), ((), [0]), (FAMILY, [8])]:
            inside = nodes_of(tree)
            for value in NO_NODES + missing:
                for other in inside + missing + [None, "first", True, -1]:
                    self.fails(NotFreed, {"node": value}, node_before, tree, value, other, limit=2)
                for first in inside:
                    self.fails(NotFreed, {"node": value}, node_before, tree, first, value, limit=2)


class SlotBeforeTest(StrictCase):
    def test_example(self):
        tree = ((), (0, 0), (1, 0))
        found = [slot_before(tree, (1, 0), (0, 1), limit=3), slot_before(tree, (1, 0), (0, 1), limit=1)]
        self.check(found, [True, False])

    def expect(self, limit, first, second):
        """The first slot comes before the second one, and not the other way round."""
        self.check(slot_before(FAMILY, first, second, limit=limit), True)
        self.check(slot_before(tree=FAMILY, one=second, other=first, limit=limit), False)

    def test_the_same_node(self):
        for limit in (1, 2, 3, 8, GREAT):
            for v in range(8):
                for i, j in [(0, 1), (0, 39), (5, 6), (38, 39)]:
                    self.expect(limit, (v, i), (v, j))

    def test_unrelated_nodes(self):
        for i, j in [(0, 0), (0, 39), (39, 0)]:
            self.expect(1, (3, i), (2, j))
            self.expect(1, (5, i), (6, j))
            self.expect(2, (1, i), (2, j))
            self.expect(2, (3, i), (4, j))
            self.expect(8, (4, i), (5, j))

    def test_above_and_near(self):
        for limit in (4, 8, GREAT):
            for j in (0, 5, 39):
                # Node 2 and all below it come through slot 1 of the root; 4 and 6 through slot 3 of node 2.
                for low in (2, 4, 5, 6):
                    self.expect(limit, (0, 0), (low, j))
                    self.expect(limit, (0, 1), (low, j))
                    self.expect(limit, (low, j), (0, 2))
                    self.expect(limit, (low, j), (0, 39))
                for low in (4, 6):
                    self.expect(limit, (2, 0), (low, j))
                    self.expect(limit, (2, 3), (low, j))
                    self.expect(limit, (low, j), (2, 4))
                self.expect(limit, (1, j), (0, 1))
                self.expect(limit, (0, 0), (1, j))

    def test_above_and_far(self):
        for j in (0, 5, 39):
            for i in (0, 1, 2, 3, 4, 39):
                for high, low in [(0, 1), (0, 2), (0, 6), (2, 4), (4, 6)]:
                    self.expect(1, (high, i), (low, j))
                self.expect(2, (0, i), (4, j))
                self.expect(2, (0, i), (6, j))
                self.expect(2, (2, i), (4, j))
                self.expect(3, (0, i), (6, j))
                self.expect(3, (2, i), (6, j))
            # The middle of the way is near to the root, and its end is near to nothing above it.
            self.expect(2, (2, j), (0, 2))
            self.expect(3, (4, j), (0, 2))

    def test_a_slot_and_itself(self):
        for tree in SMALL_TREES + GREAT_TREES:
            for v in nodes_of(tree):
                for i in (0, 1, 39):
                    self.check(slot_before(tree, (v, i), (v, i), limit=1), False)
                    self.check(slot_before(tree, (v, i), (v, i), limit=GREAT), False)

    def test_every_pair(self):
        for tree in [BRANCHES, FAMILY, ROOT_LAST, SCATTERED, LONE, PATH_40[:6]] + RANDOM_TREES[:12]:
            slots = [(v, i) for v in nodes_of(tree) for i in (0, 1, 2, 3, 5, 39)]
            for one, other in itertools.product(slots, repeat=2):
                for limit in limits_for(tree):
                    found = slot_before(tree, one, other, limit=limit)
                    self.check(found, plain_slot_before(tree, one, other, limit))
                    if one != other:
                        self.assertNotEqual(found, slot_before(tree, other, one, limit=limit))

    def test_pairs_of_great_trees(self):
        for tree in GREAT_TREES:
            slots = [(v, i) for v in range(0, 40, 6) for i in (0, 1, 20, 39)]
            for one, other in itertools.product(slots, repeat=2):
                for limit in (1, 2, 3, 40, GREAT):
                    self.check(slot_before(tree, one, other, limit=limit), plain_slot_before(tree, one, other, limit))


class TreeLogTest(StrictCase):
    def test_example(self):
        found = [tree_log(BRANCHES, limit=limit) for limit in (1, 2, 3)]
        self.check(found, [(0, 2, 4, 1, 3), (0, 1, 2, 4, 3), (0, 1, 3, 2, 4)])

    def test_edges(self):
        for limit in (1, 2, 3, GREAT):
            self.check(tree_log((), limit=limit), ())
            self.check(tree_log(NO_NODE, limit=limit), ())
            self.check(tree_log(LONE, limit=limit), (0,))
            self.check(tree_log((None, (), None), limit=limit), (1,))
            self.check(tree_log(PATH_40, limit=limit), tuple(range(40)))
            self.check(tree_log(tree=BACKWARDS_40, limit=limit), tuple(range(39, -1, -1)))
        self.check(tree_log(STAR_40, limit=1), tuple(range(40)))
        for limit in (2, 3, 40, GREAT):
            self.check(tree_log(STAR_40, limit=limit), (0,) + tuple(range(39, 0, -1)))

    def test_sorted_by_node_before(self):
        for tree in SMALL_TREES + GREAT_TREES + RANDOM_TREES:
            for limit in limits_for(tree) + [4, 5, 7]:
                order = functools.cmp_to_key(lambda v, w: -1 if plain_node_before(tree, v, w, limit) else 1)
                found = tree_log(tree, limit=limit)
                self.check(found, tuple(sorted(nodes_of(tree), key=order)))
                for v, w in zip(found, found[1:]):
                    self.check(node_before(tree, v, w, limit=limit), True)

    def test_preorder(self):
        for tree in [SCATTERED, BRANCHES, FAMILY] + GREAT_TREES + RANDOM_TREES:
            root = tree.index(())
            self.check(tree_log(tree, limit=1), tuple(preorder(tree, root, -1)))
            for limit in (len(tree), len(tree) + 1, GREAT):
                self.check(tree_log(tree, limit=limit), tuple(preorder(tree, root, 1)))

    def test_a_comb(self):
        # Odd nodes and even nodes from 2 on are children of the even node before them, in the slots 1 and 0.
        self.check(tree_log(COMB_40[:7], limit=1), (0, 1, 2, 3, 4, 5, 6))
        self.check(tree_log(COMB_40[:7], limit=2), (0, 2, 1, 3, 4, 6, 5))
        self.check(tree_log(COMB_40[:7], limit=7), (0, 2, 4, 6, 5, 3, 1))


if __name__ == "__main__":
    unittest.main()
