"""Point 25: the events of a drop."""

import unittest

from slotfall.errors import NoNode, NoReference
from slotfall.machine import drop
from slotfall.tracing import trace
from tests.support import (APART, EMPTY, HEAPS, HOLES, LOOP, MANY, NO_NODES, SHARED, TREE, TWICE, Model, StrictCase,
                           droppable, random_heap)

GREAT = 10 ** 30


class TraceTest(StrictCase):
    def test_example(self):
        self.check(trace((((1, 1), ()), (1, 0)), 0, limit=1), [
            ("release", None, None, 0, 0), ("destroy", 0, 0), ("release", 0, 0, 1, 1), ("release", 0, 1, 1, 0),
            ("shelve", 1, 1), ("take", 1, 0), ("destroy", 1, 0)])

    def test_a_tree(self):
        start = [("release", None, None, 0, 0), ("destroy", 0, 0), ("release", 0, 0, 1, 0)]
        self.check(trace(TREE, 0, limit=1), start + [
            ("shelve", 1, 1), ("release", 0, 1, 2, 0), ("shelve", 2, 2), ("take", 2, 1), ("destroy", 2, 0),
            ("take", 1, 0), ("destroy", 1, 0), ("release", 1, 0, 3, 0), ("shelve", 3, 1), ("take", 3, 0),
            ("destroy", 3, 0)])
        self.check(trace(TREE, 0, limit=2), start + [
            ("destroy", 1, 1), ("release", 1, 0, 3, 0), ("shelve", 3, 1), ("release", 0, 1, 2, 0), ("destroy", 2, 1),
            ("take", 3, 0), ("destroy", 3, 0)])
        for limit in (3, 4, GREAT):
            self.check(trace(TREE, 0, limit=limit), start + [
                ("destroy", 1, 1), ("release", 1, 0, 3, 0), ("destroy", 3, 2), ("release", 0, 1, 2, 0),
                ("destroy", 2, 1)])

    def test_counts_and_slots(self):
        self.check(trace(SHARED, 0, limit=2), [
            ("release", None, None, 0, 0), ("destroy", 0, 0), ("release", 0, 0, 1, 0), ("destroy", 1, 1),
            ("release", 1, 0, 2, 1), ("release", 0, 1, 2, 0), ("destroy", 2, 1)])
        self.check(trace(MANY, 0, limit=1), [("release", None, None, 0, 2)])
        self.check(trace(LOOP, 0, limit=1), [("release", None, None, 0, 1)])
        heap = (((None, 1, None, 1), (1, 1, None)), (1, 9))
        self.check(trace(heap, 0, limit=1), [
            ("release", None, None, 0, 0), ("destroy", 0, 0), ("release", 0, 1, 1, 12), ("release", 0, 3, 1, 11)])

    def test_a_new_list_each_time(self):
        first = trace(TWICE, 0, limit=1)
        kept = list(first)
        first.clear()
        second = trace(heap=TWICE, node=0, limit=1)
        self.check(second, kept)
        self.assertIsNot(trace(TWICE, 0, limit=1), second)

    def test_agrees_with_the_second_machine(self):
        for heap in HEAPS + [random_heap(seed) for seed in range(200)]:
            for node in droppable(heap):
                for limit in (1, 2, 3, 4, 5, len(heap[0]), GREAT):
                    self.check(trace(heap, node, limit=limit), Model(heap, limit).drop(node).events)

    def test_what_follows_an_event(self):
        for seed in range(200):
            heap = random_heap(seed)
            for node in droppable(heap):
                for limit in (1, 2, 3):
                    self.follow(heap, node, limit)

    def follow(self, heap, node, limit):
        events = trace(heap, node, limit=limit)
        log, peak, _ = drop(heap, node, limit=limit)
        self.assertEqual([event[1] for event in events if event[0] == "destroy"], list(log))
        self.assertEqual(max([event[2] for event in events if event[0] == "shelve"], default=0), peak)
        for event, following in zip(events, events[1:] + [("end", None)]):
            if event[0] == "release" and event[4] == 0:
                self.assertIn(following[0], ("destroy", "shelve"))
                self.assertEqual(following[1], event[3])
            if event[0] == "take":
                self.assertEqual(following, ("destroy", event[1], 0))

    def test_errors(self):
        for node in NO_NODES + [1, 3, 6]:
            self.fails(NoNode, {"node": node}, trace, HOLES, node, limit=1)
            self.fails(NoNode, {"node": node}, trace, EMPTY, node, limit=1)
        for node in (2, 4, 5):
            self.fails(NoReference, {"node": node}, trace, HOLES, node, limit=1)
        self.fails(NoReference, {"node": 1}, trace, APART, 1, limit=1)


if __name__ == "__main__":
    unittest.main()
