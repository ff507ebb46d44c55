"""Point 13: facts about drops, their logs and their release trees."""

import functools
import itertools
import unittest

from slotfall.fates import freed
from slotfall.machine import drop
from slotfall.order import slot_before, tree_log
from slotfall.releasetrees import release_tree
from slotfall.tracing import trace
from tests.release_trees import nodes_of, plain_node_before
from tests.support import BINARY, HEAPS, LONG_PATH, StrictCase, droppable, plain_live, random_heap

SOME_HEAPS = HEAPS + [random_heap(seed) for seed in range(200)]


def tree_heap(children):
    inner = {child for row in children for child in row}
    return (children, tuple(0 if v in inner else 1 for v in range(len(children))))


def preorder(children, v, step):
    return [v] + [w for child in children[v][::step] for w in preorder(children, child, step)]


class FactsTest(StrictCase):
    def test_the_same_nodes_for_every_limit(self):
        for heap in SOME_HEAPS:
            for node in droppable(heap):
                for limit in [1, 2, 3, 4, 5, len(heap[0]), 10 ** 30]:
                    log, _, after = drop(heap, node, limit=limit)
                    self.assertEqual(sorted(log), freed(heap, node))
                    self.check(after, drop(heap, node, limit=1)[2])

    def test_the_same_log_from_the_number_of_nodes_on(self):
        for heap in SOME_HEAPS:
            n = len(heap[0])
            for node in droppable(heap):
                for limit in (n + 1, n + 2, 2 * n, 10 ** 30):
                    self.check(drop(heap, node, limit=limit), drop(heap, node, limit=n))

    def test_the_number_of_releases(self):
        for heap in SOME_HEAPS:
            for node in droppable(heap):
                filled = sum(held is not None for v in freed(heap, node) for held in heap[0][v])
                for limit in (1, 2, 3, 10 ** 30):
                    releases = [event for event in trace(heap, node, limit=limit) if event[0] == "release"]
                    self.assertEqual(len(releases), 1 + filled)

    def test_the_logs_of_a_tree(self):
        for children in [BINARY[0], LONG_PATH[0], ((2, 1), (4, 5, 3), (), (), (6,), (), ()), ((), (2, 0), ())]:
            heap = tree_heap(children)
            root = droppable(heap)[0]
            self.assertEqual(list(drop(heap, root, limit=1)[0]), preorder(children, root, -1))
            self.assertEqual(list(drop(heap, root, limit=len(children))[0]), preorder(children, root, 1))

    def test_the_log_is_the_node_order_of_the_release_tree(self):
        for heap in SOME_HEAPS:
            for node in droppable(heap):
                for limit in (1, 2, 3, 10 ** 30):
                    tree = release_tree(heap, node, limit=limit)
                    order = functools.cmp_to_key(lambda v, w: -1 if plain_node_before(tree, v, w, limit) else 1)
                    log = drop(heap, node, limit=limit)[0]
                    self.check(tuple(sorted(nodes_of(tree), key=order)), log)
                    self.check(tree_log(tree, limit=limit), log)

    def test_no_other_release_tree_has_the_last_slots(self):
        for heap in [random_heap(seed, most=5, width=3) for seed in range(150)]:
            for node in droppable(heap):
                for limit in (1, 2, 3):
                    found = [tree for tree in trees_with_the_nodes(heap, node) if has_last_slots(heap, tree, limit)]
                    self.check(found, [release_tree(heap, node, limit=limit)])


def slots_that_hold(heap, node):
    return [(v, i) for v in plain_live(heap) for i in range(len(heap[0][v])) if heap[0][v][i] == node]


def trees_with_the_nodes(heap, node):
    """All release trees of the destroyed nodes in which every entry slot holds its node."""
    gone = freed(heap, node)
    choices = [[()] if v == node and gone else slots_that_hold(heap, v) if v in gone else [None]
               for v in range(len(heap[0]))]
    trees = list(itertools.product(*choices))
    return [tree for tree in trees if all(leads_to_root(tree, v, len(tree)) for v in gone)]


def leads_to_root(tree, v, steps):
    return tree[v] == () or steps > 0 and tree[v] is not None and leads_to_root(tree, tree[v][0], steps - 1)


def has_last_slots(heap, tree, limit):
    pairs = [v for v in nodes_of(tree) if tree[v]]
    return all(place == tree[v] or slot_before(tree, place, tree[v], limit=limit)
               for v in pairs for place in slots_that_hold(heap, v))


if __name__ == "__main__":
    unittest.main()
