"""Point 13, as far as it concerns the drop itself."""

import unittest

from slotfall.fates import freed
from slotfall.machine import drop
from slotfall.tracing import trace
from tests.support import BINARY, HEAPS, LONG_PATH, StrictCase, droppable, random_heap

SOME_HEAPS = HEAPS + [random_heap(seed) for seed in range(200)]


def tree_heap(children):
    inner = {child for row in children for child in row}
    return (children, tuple(0 if v in inner else 1 for v in range(len(children))))


def preorder(children, v, step):
    return [v] + [w for child in children[v][::step] for w in preorder(children, child, step)]


class FactsTest(StrictCase):
    def test_the_same_nodes_for_every_limit(self):
        for heap in SOME_HEAPS:
            for node in droppable(heap):
                for limit in [1, 2, 3, 4, 5, len(heap[0]), 10 ** 30]:
                    log, _, after = drop(heap, node, limit=limit)
                    self.assertEqual(sorted(log), freed(heap, node))
                    self.check(after, drop(heap, node, limit=1)[2])

    def test_the_same_log_from_the_number_of_nodes_on(self):
        for heap in SOME_HEAPS:
            n = len(heap[0])
            for node in droppable(heap):
                for limit in (n + 1, n + 2, 2 * n, 10 ** 30):
                    self.check(drop(heap, node, limit=limit), drop(heap, node, limit=n))

    def test_the_number_of_releases(self):
        for heap in SOME_HEAPS:
            for node in droppable(heap):
                filled = sum(held is not None for v in freed(heap, node) for held in heap[0][v])
                for limit in (1, 2, 3, 10 ** 30):
                    releases = [event for event in trace(heap, node, limit=limit) if event[0] == "release"]
                    self.assertEqual(len(releases), 1 + filled)

    def test_the_logs_of_a_tree(self):
        for children in [BINARY[0], LONG_PATH[0], ((2, 1), (4, 5, 3), (), (), (6,), (), ()), ((), (2, 0), ())]:
            heap = tree_heap(children)
            root = droppable(heap)[0]
            self.assertEqual(list(drop(heap, root, limit=1)[0]), preorder(children, root, -1))
            self.assertEqual(list(drop(heap, root, limit=len(children))[0]), preorder(children, root, 1))


if __name__ == "__main__":
    unittest.main()
