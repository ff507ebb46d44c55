"""Points 39 to 41: the history, the peak and the least limit of the shelf."""

import unittest

from slotfall.errors import NoNode, NoReference
from slotfall.machine import drop
from slotfall.shelves import least_limit, shelf_history, shelf_peak
from tests.support import (APART, BINARY, EMPTY, HEAPS, HOLES, LONG_PATH, LOOP, MANY, NO_NODES, PATH, RING, SHARED, STAR,
                           TREE, WIDE_STAR, Model, StrictCase, droppable, random_heap)

GREAT = 10 ** 30
SOME_HEAPS = HEAPS + [random_heap(seed) for seed in range(200)]
ONE = (((),), (1,))


def limits_for(heap):
    return [1, 2, 3, max(1, len(heap[0])), GREAT]


def plain_history(heap, node, limit):
    """The greatest of the lengths from each time that a node is appended to the log."""
    stretches, length = [], 0
    for event in Model(heap, limit).drop(node).events:
        length += {"shelve": 1, "take": -1}.get(event[0], 0)
        if event[0] == "destroy":
            stretches.append([])
        if stretches:
            stretches[-1].append(length)
    return tuple(max(lengths) for lengths in stretches)


class ErrorsOfDrop(StrictCase):
    def raises_as_drop(self, call, **named):
        for node in NO_NODES + [1, 3, 6]:
            self.fails(NoNode, {"node": node}, call, HOLES, node, **named)
            self.fails(NoNode, {"node": node}, call, EMPTY, node, **named)
        for node in NO_NODES:
            self.fails(NoNode, {"node": node}, call, ONE, node, **named)
        for node in (2, 4, 5):
            self.fails(NoReference, {"node": node}, call, HOLES, node, **named)
        self.fails(NoReference, {"node": 0}, call, APART, 0, **named)
        self.fails(NoReference, {"node": 0}, call, (((0,),), (0,)), 0, **named)


class ShelfHistoryTest(ErrorsOfDrop):
    def test_example(self):
        self.check(shelf_history(TREE, 0, limit=1), (2, 1, 1, 0))

    def expect(self, heap, *rows):
        for limit, history in rows:
            self.check(shelf_history(heap=heap, node=0, limit=limit), history)

    def test_edges(self):
        self.expect(TREE, (2, (0, 1, 1, 0)), (3, (0,) * 4), (4, (0,) * 4), (GREAT, (0,) * 4))
        self.expect(STAR, (1, (4, 3, 2, 1, 0)), (2, (0,) * 5), (GREAT, (0,) * 5))
        self.expect(BINARY, (1, (2, 3, 2, 1, 2, 1, 0)), (2, (0, 2, 4, 3, 2, 1, 0)), (3, (0,) * 7))
        self.expect(SHARED, (1, (1, 1, 0)), (2, (0, 0, 0)))
        self.expect(ONE, (1, (0,)), (GREAT, (0,)))
        self.expect(WIDE_STAR, (1, tuple(range(39, -1, -1))), (2, (0,) * 40))

    def test_taken_at_once(self):
        # Each node of the path but the last puts the next one on the shelf, from which it is taken at once.
        self.expect(PATH, (1, (1, 1, 1, 0)), (2, (0, 1, 0, 0)), (3, (0, 0, 1, 0)), (4, (0,) * 4), (GREAT, (0,) * 4))
        self.expect(LONG_PATH, (1, (1,) * 39 + (0,)), (2, (0, 1) * 19 + (0, 0)), (39, (0,) * 38 + (1, 0)))

    def test_empty_log(self):
        for limit in (1, 2, GREAT):
            for heap in (MANY, LOOP, RING):
                self.expect(heap, (limit, ()))

    def test_agrees_with_the_second_machine(self):
        for heap in SOME_HEAPS + [random_heap(seed, 40) for seed in range(20)]:
            for node in droppable(heap):
                for limit in limits_for(heap):
                    found = shelf_history(heap, node, limit=limit)
                    self.check(found, plain_history(heap, node, limit))
                    self.assertEqual(len(found), len(drop(heap, node, limit=limit)[0]))

    def test_errors(self):
        self.raises_as_drop(shelf_history, limit=1)
        self.raises_as_drop(shelf_history, limit=GREAT)


class ShelfPeakTest(ErrorsOfDrop):
    def test_example(self):
        found = [shelf_peak(TREE, 0, limit=1), shelf_peak(TREE, 0, limit=2), shelf_peak(TREE, 0, limit=4)]
        self.check(found, [(2, 0), (1, 1), (0, 0)])

    def test_the_first_position(self):
        for heap, limit, peak in [(PATH, 1, (1, 0)), (PATH, 2, (1, 1)), (PATH, 3, (1, 2)), (PATH, 4, (0, 0)),
                                  (BINARY, 1, (3, 1)), (BINARY, 2, (4, 2)), (BINARY, GREAT, (0, 0)), (ONE, 1, (0, 0)),
                                  (LONG_PATH, 1, (1, 0)), (LONG_PATH, 2, (1, 1)), (WIDE_STAR, 1, (39, 0))]:
            self.check(shelf_peak(heap=heap, node=0, limit=limit), peak)
        # Node 0 shelves two nodes; 2 and then 1 take the length back to two.
        again = (((1, 2), (3, 4), (5,), (), (), ()), (1, 0, 0, 0, 0, 0))
        self.check(shelf_history(again, 0, limit=1), (2, 2, 1, 2, 1, 0))
        self.check(shelf_peak(again, 0, limit=1), (2, 0))

    def test_empty_log(self):
        for limit in (1, 2, GREAT):
            for heap in (MANY, LOOP, RING):
                self.check(shelf_peak(heap, 0, limit=limit), (0, None))

    def test_agrees_with_the_second_machine(self):
        for heap in SOME_HEAPS:
            for node in droppable(heap):
                for limit in limits_for(heap):
                    history = plain_history(heap, node, limit)
                    peak, position = shelf_peak(heap, node, limit=limit)
                    self.check(peak, drop(heap, node, limit=limit)[1])
                    if history:
                        self.assertEqual(history[position], max(history))
                        self.assertNotIn(max(history), history[:position])
                    else:
                        self.assertIsNone(position)

    def test_errors(self):
        self.raises_as_drop(shelf_peak, limit=1)
        self.raises_as_drop(shelf_peak, limit=GREAT)


class LeastLimitTest(ErrorsOfDrop):
    def test_example(self):
        found = [least_limit(TREE, 0, most=2), least_limit(TREE, 0, most=1), least_limit(TREE, 0, most=0)]
        self.check(found, [1, 2, 3])

    def test_edges(self):
        for heap, most, limit in [(ONE, 0, 1), (ONE, 5, 1), (PATH, 0, 4), (PATH, 1, 1), (LONG_PATH, 0, 40),
                                  (LONG_PATH, 1, 1), (WIDE_STAR, 38, 2), (WIDE_STAR, 39, 1), (WIDE_STAR, 0, 2),
                                  (MANY, 0, 1), (LOOP, 0, 1), (RING, 0, 1), (RING, GREAT, 1), (TREE, GREAT, 1)]:
            self.check(least_limit(heap=heap, node=0, most=most), limit)

    def test_a_peak_that_rises(self):
        # With limit 2 the four nodes of depth 2 are on the shelf together.
        peaks = [drop(BINARY, 0, limit=limit)[1] for limit in range(1, 8)]
        self.assertEqual(peaks, [3, 4, 0, 0, 0, 0, 0])
        self.check([least_limit(BINARY, 0, most=most) for most in range(6)], [3, 3, 3, 1, 1, 1])
        heap = (((1,), (2, 3), (4, 5), (6, 7), (), (), (), ()), (1,) + (0,) * 7)
        peaks = [drop(heap, 0, limit=limit)[1] for limit in range(1, 9)]
        self.assertEqual(peaks, [3, 2, 4, 0, 0, 0, 0, 0])
        self.check([least_limit(heap, 0, most=most) for most in range(6)], [4, 4, 2, 1, 1, 1])

    def test_every_most(self):
        for heap in SOME_HEAPS:
            for node in droppable(heap):
                peaks = [Model(heap, limit).drop(node).peak for limit in range(1, len(heap[0]) + 1)]
                for most in range(max(peaks) + 3):
                    expected = next(limit for limit, peak in enumerate(peaks, 1) if peak <= most)
                    self.check(least_limit(heap, node, most=most), expected)

    def test_errors(self):
        for most in (0, 1, GREAT):
            self.raises_as_drop(least_limit, most=most)


if __name__ == "__main__":
    unittest.main()
