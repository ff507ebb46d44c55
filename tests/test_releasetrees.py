"""Point 33: the release tree of a drop."""

import unittest

from slotfall.errors import NoNode, NoReference
from slotfall.machine import drop
from slotfall.order import tree_log
from slotfall.releasetrees import release_tree
from tests.release_trees import plain_release_tree
from tests.support import (APART, BINARY, EMPTY, HEAPS, HOLES, LONG_PATH, LOOP, MANY, NO_NODES, PATH, RING, SHARED, STAR,
                           TREE, TWICE, WIDE_STAR, StrictCase, droppable, random_heap)

GREAT = 10 ** 30
# Node 4 is held by 1 and 2; 2 holds itself in no slot, 1 and 5 hold each other, 3 is free.
CYCLE = (((1, None, 2), (4, 5), (None, 4), None, (), (1,)), (1, 0, 0, 0, 0, 0))


def limits_for(heap):
    return [1, 2, 3, max(1, len(heap[0])), GREAT]


class ReleaseTreeTest(StrictCase):
    def test_example(self):
        found = [release_tree(SHARED, 0, limit=1), release_tree(SHARED, 0, limit=2)]
        self.check(found, [((), (0, 0), (1, 0)), ((), (0, 0), (0, 1))])

    def expect(self, heap, node, tree, limits=(1, 2, 3, 40, GREAT)):
        for limit in limits:
            self.check(release_tree(heap=heap, node=node, limit=limit), tree)

    def test_trees(self):
        self.expect(PATH, 0, ((), (0, 0), (1, 0), (2, 0)))
        self.expect(STAR, 0, ((), (0, 0), (0, 1), (0, 2), (0, 3)))
        self.expect(BINARY, 0, ((), (0, 0), (0, 1), (1, 0), (1, 1), (2, 0), (2, 1)))
        self.expect(LONG_PATH, 0, ((),) + tuple((v, 0) for v in range(39)))
        self.expect(WIDE_STAR, 0, ((),) + tuple((0, v) for v in range(39)))

    def test_holes_and_free_nodes(self):
        self.expect(HOLES, 0, ((), None, (0, 1), None, (0, 3), (2, 1)))
        self.expect(APART, 2, (None, None, (), (2, 0)))
        self.expect((((),), (1,)), 0, ((),))

    def test_shared_nodes(self):
        self.expect(TWICE, 0, ((), (0, 1)))
        heap = (((1, 2), (4,), (3, 4), (), ()), (1, 0, 0, 0, 0))
        self.expect(heap, 0, ((), (0, 0), (0, 1), (2, 0), (1, 0)), [1])
        self.expect(heap, 0, ((), (0, 0), (0, 1), (2, 0), (2, 1)), [2, 3, 5, GREAT])
        heap = (((1, 1, 2), (3, 3), (1, 3, None), ()), (1, 0, 0, 0))
        # Only with a greater limit is node 1 destroyed before slot 1 of node 2 is emptied.
        self.expect(heap, 0, ((), (2, 0), (0, 2), (1, 1)), [1, 2])
        self.expect(heap, 0, ((), (2, 0), (0, 2), (2, 1)), [3, 4, GREAT])

    def test_a_count_that_does_not_become_zero(self):
        self.expect(MANY, 0, (None,) * 4)
        self.expect(LOOP, 0, (None,) * 2)
        self.expect(RING, 0, (None,) * 4)
        self.expect(MANY, 1, (None,) * 4)
        self.expect((((0, 0),), (9,)), 0, (None,))

    def test_nodes_that_stay(self):
        self.expect(CYCLE, 0, ((), None, (0, 2), None, None, None))
        heap = (((1, 2), (3,), (), ()), (1, 1, 0, 0))
        self.expect(heap, 0, ((), None, (0, 1), None))

    def test_agrees_with_the_second_machine(self):
        for heap in HEAPS + [CYCLE] + [random_heap(seed) for seed in range(300)] + [random_heap(n, 40) for n in range(20)]:
            for node in droppable(heap):
                for limit in limits_for(heap):
                    self.check(release_tree(heap, node, limit=limit), plain_release_tree(heap, node, limit))

    def test_the_log_of_the_tree(self):
        for heap in HEAPS + [CYCLE] + [random_heap(seed) for seed in range(300)] + [random_heap(n, 40) for n in range(20)]:
            for node in droppable(heap):
                for limit in limits_for(heap):
                    tree = release_tree(heap, node, limit=limit)
                    self.check(tree_log(tree, limit=limit), drop(heap, node, limit=limit)[0])

    def test_errors(self):
        for node in NO_NODES + [1, 3, 6]:
            self.fails(NoNode, {"node": node}, release_tree, HOLES, node, limit=1)
            self.fails(NoNode, {"node": node}, release_tree, EMPTY, node, limit=1)
        for node in (2, 4, 5):
            self.fails(NoReference, {"node": node}, release_tree, HOLES, node, limit=GREAT)
        self.fails(NoReference, {"node": 1}, release_tree, APART, 1, limit=1)


if __name__ == "__main__":
    unittest.main()
