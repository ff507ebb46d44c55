"""Points 19 and 20: reachable nodes and their certificates."""

import unittest

from slotfall.errors import NoNode
from slotfall.reach import reach_certificate, reachable
from tests.support import (APART, EMPTY, HEAPS, HOLES, LONG_PATH, LOOP, MANY, NO_NODES, RING, SHARED, TWICE, StrictCase,
                           plain_live, plain_reachable, random_heap)

ALONE = (((0,),), (0,))
TWO_RINGS = (((1, 1), (0, None), (3, 0), (2,), None, ()), (0, 0, 0, 0, 0, 1))
ONE_WAY = (((1,), (0,), (0, 3), (2,), (1,)), (0, 1, 0, 0, 0))


class ReachableTest(StrictCase):
    def test_example(self):
        self.check(reachable((((1,), (0,), (3,), ()), (0, 0, 1, 0))), [2, 3])

    def test_edges(self):
        for heap, expected in [(EMPTY, []), (((None,), (0,)), []), (ALONE, []), (LOOP, [0, 1]), (RING, [0, 1, 2, 3]),
                               (SHARED, [0, 1, 2]), (TWICE, [0, 1]), (HOLES, [0, 2, 4, 5]), (APART, [2, 3]),
                               (MANY, [0, 1, 2, 3]), (LONG_PATH, list(range(40))), (TWO_RINGS, [5]),
                               ((((1,), (0,), (2, 0)), (0, 1, 0)), [0, 1])]:
            self.check(reachable(heap), expected)
        self.check(reachable(heap=TWO_RINGS), [5])

    def test_by_the_definition(self):
        for heap in HEAPS + [random_heap(seed) for seed in range(300)]:
            self.check(reachable(heap), plain_reachable(heap))


class CertificateTest(StrictCase):
    def meets(self, heap, node, value):
        """The certificate meets every clause of the point."""
        slots, outside = heap
        self.assertIs(type(value), tuple)
        self.assertEqual(len(value), 2)
        label, entries = value
        self.assertIs(type(entries), tuple)
        self.assertTrue(all(type(v) is int and v in plain_live(heap) for v in entries))
        self.assertEqual(label, "reached" if node in plain_reachable(heap) else "unreached")
        if label == "reached":
            self.assertGreater(outside[entries[0]], 0)
            for before, entry in zip(entries, entries[1:]):
                self.assertIn(entry, slots[before])
            self.assertEqual(entries[-1], node)
        else:
            self.assertEqual(list(entries), sorted(set(entries)))
            self.assertIn(node, entries)
            self.assertTrue(all(outside[v] == 0 for v in entries))
            for v in plain_live(heap):
                self.assertTrue(v in entries or not set(slots[v]) & set(entries))

    def test_examples(self):
        heap = (((1,), (0,), (3,), ()), (0, 0, 1, 0))
        found = [reach_certificate(heap, 3), reach_certificate(heap, 1)]
        self.check(found, [("reached", (2, 3)), ("unreached", (0, 1))])

    def test_the_only_certificates(self):
        self.check(reach_certificate(ALONE, 0), ("unreached", (0,)))
        self.check(reach_certificate(heap=LONG_PATH, node=39), ("reached", tuple(range(40))))
        self.check(reach_certificate(HOLES, 5), ("reached", (0, 2, 5)))
        self.check(reach_certificate(RING, 0), ("reached", (0,)))

    def test_by_the_clauses(self):
        for heap in HEAPS + [ALONE, TWO_RINGS, ONE_WAY] + [random_heap(seed) for seed in range(300)]:
            for node in plain_live(heap):
                self.meets(heap, node, reach_certificate(heap, node))
                self.check(reach_certificate(heap, node), reach_certificate(heap, node))

    def test_no_node(self):
        for node in NO_NODES + [1, 3, 6]:
            self.fails(NoNode, {"node": node}, reach_certificate, HOLES, node)
            self.fails(NoNode, {"node": node}, reach_certificate, EMPTY, node)


if __name__ == "__main__":
    unittest.main()
