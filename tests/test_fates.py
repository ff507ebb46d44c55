"""Points 26 and 27: what a drop destroys and keeps, with certificates."""

import unittest

from slotfall.errors import NoNode, NoReference
from slotfall.fates import fate, freed, kept
from tests.support import (APART, EMPTY, HEAPS, HOLES, LONG_PATH, LOOP, MANY, NO_NODES, RING, SHARED, TWICE, StrictCase,
                           droppable, plain_live, random_heap)

PARTLY = (((1, 2), (3,), (), ()), (1, 0, 1, 0))
# Dropping 0 destroys 0 and 1; 2 is in a ring with 3, 4 has an outside reference and holds 5.
MIXED = (((1, 2), (2, 5), (3,), (2,), (5,), (), None), (1, 0, 0, 0, 2, 0, 0))
FORTY_RING = (tuple(((v + 1) % 40,) for v in range(40)), (1,) + (0,) * 39)


def outside_after(heap, node):
    return [number - (v == node) for v, number in enumerate(heap[1])]


def defined_freed(heap, node):
    """The smallest set of the document's fact: it grows until nothing more belongs to it."""
    slots, left = heap[0], outside_after(heap, node)
    if left[node] or any(node in row for row in slots if row is not None):
        return []
    found = {node}
    for _ in slots:
        for v in plain_live(heap):
            holders = {w for w in plain_live(heap) if v in slots[w]}
            if not left[v] and holders <= found and (holders or v == node):
                found.add(v)
    return sorted(found)


class FreedKeptTest(StrictCase):
    def test_example(self):
        self.check([freed(PARTLY, 0), kept(PARTLY, 0)], [[0, 1, 3], [2]])

    def test_edges(self):
        for heap, node, gone in [(MIXED, 0, [0, 1]), (MIXED, 4, []), (LOOP, 0, []), (RING, 0, []), (SHARED, 0, [0, 1, 2]),
                                 (TWICE, 0, [0, 1]), (MANY, 0, []), (MANY, 1, []), (APART, 2, [2, 3]),
                                 (HOLES, 0, [0, 2, 4, 5]), (LONG_PATH, 0, list(range(40))), (FORTY_RING, 0, [])]:
            self.check(freed(heap, node), gone)
            self.check(kept(heap, node), [v for v in plain_live(heap) if v not in gone])
        self.check(kept(APART, 2), [0, 1])
        self.check([freed(heap=MIXED, node=0), kept(heap=MIXED, node=0)], [[0, 1], [2, 3, 4, 5]])

    def test_by_the_definition(self):
        for heap in HEAPS + [random_heap(seed) for seed in range(300)]:
            for node in droppable(heap):
                gone = defined_freed(heap, node)
                self.check(freed(heap, node), gone)
                self.check(kept(heap, node), [v for v in plain_live(heap) if v not in gone])

    def test_errors(self):
        for call in (freed, kept):
            for node in NO_NODES + [1, 3, 6]:
                self.fails(NoNode, {"node": node}, call, HOLES, node)
                self.fails(NoNode, {"node": node}, call, EMPTY, node)
            for node in (2, 4, 5):
                self.fails(NoReference, {"node": node}, call, HOLES, node)


class FateTest(StrictCase):
    def test_example(self):
        self.check([fate(PARTLY, 0, 3), fate(PARTLY, 0, 2)], [("freed", (0, 1, 3)), ("kept", (2,))])

    def test_the_only_certificates(self):
        self.check(fate(MIXED, 0, 0), ("freed", (0,)))
        self.check(fate(MIXED, 0, 1), ("freed", (0, 1)))
        self.check(fate(heap=MIXED, node=0, target=4), ("kept", (4,)))
        self.check(fate(MIXED, 0, 2), ("kept", (2, 3, 2)))
        self.check(fate(MIXED, 0, 5), ("kept", (5, 4)))
        self.check(fate(MANY, 0, 0), ("kept", (0,)))
        self.check(fate(LOOP, 0, 1), ("kept", (1, 0, 0)))
        self.check(fate(LONG_PATH, 0, 39), ("freed", tuple(range(40))))
        self.check(fate(FORTY_RING, 0, 0), ("kept", (0,) + tuple(range(39, -1, -1))))

    def test_by_the_clauses(self):
        for heap in HEAPS + [MIXED] + [random_heap(seed) for seed in range(300)]:
            for node in droppable(heap):
                gone = defined_freed(heap, node)
                for target in plain_live(heap):
                    label, entries = fate(heap, node, target)
                    self.check(fate(heap, node, target), (label, entries))
                    self.assertIs(type(entries), tuple)
                    self.assertTrue(all(type(v) is int and v in plain_live(heap) for v in entries))
                    self.assertEqual(label, "freed" if target in gone else "kept")
                    meets = self.meets_freed if label == "freed" else self.meets_kept
                    meets(heap, node, target, entries)

    def meets_freed(self, heap, node, target, order):
        slots, left = heap[0], outside_after(heap, node)
        self.assertEqual(len(set(order)), len(order))
        self.assertEqual((order[0], order[-1]), (node, target))
        for i, entry in enumerate(order):
            self.assertEqual(left[entry], 0)
            self.assertTrue(all(v in order[:i] for v in plain_live(heap) if entry in slots[v]))

    def meets_kept(self, heap, node, target, walk):
        self.assertLessEqual(len(walk), len(plain_live(heap)) + 1)
        self.assertEqual(walk[0], target)
        for before, entry in zip(walk, walk[1:]):
            self.assertIn(before, heap[0][entry])
        self.assertTrue(outside_after(heap, node)[walk[-1]] > 0 or walk[-1] in walk[:-1])

    def test_errors(self):
        for node in NO_NODES + [1, 3, 6]:
            self.fails(NoNode, {"node": node}, fate, HOLES, node, 0)
            self.fails(NoNode, {"node": node}, fate, HOLES, node, "target")
            self.fails(NoNode, {"node": node}, fate, EMPTY, node, 0)
        for node in (2, 4, 5):
            for target in (0, node, 1, None, True):
                self.fails(NoReference, {"node": node}, fate, HOLES, node, target)
        for target in NO_NODES + [1, 3, 6]:
            self.fails(NoNode, {"node": target}, fate, HOLES, 0, target)
        for target in NO_NODES + [4, 5]:
            self.fails(NoNode, {"node": target}, fate, MANY, 0, target)


if __name__ == "__main__":
    unittest.main()
