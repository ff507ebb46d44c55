"""Points 2, 5 and 15 to 18: heaps, their live nodes, counts and holders."""

import itertools
import unittest

from slotfall.errors import InvalidHeap, NoNode
from slotfall.heaps import counts, holders, is_heap, live_nodes, make_heap
from tests.support import (APART, EMPTY, HEAPS, HOLES, LOOP, NO_NODES, TWICE, StrictCase, lists_of, plain_counts,
                           plain_live, random_heap)

FORTY = (((),) * 40, (1,) * 40)
FORTY_SLOTS = (((0,) * 40,), (0,))


class IsHeapTest(StrictCase):
    def test_example(self):
        found = [is_heap((((1,), ()), (1, 0))), is_heap((((1,), ()), (0, 0))), is_heap(((), ()))]
        self.check(found, [True, False, True])

    def test_heaps(self):
        for heap in HEAPS + [FORTY, FORTY_SLOTS, (((),), (9,)), ((None,), (0,)), (((0,),), (0,)), (((None,),), (1,))]:
            self.check(is_heap(heap), True)
        for seed in range(200):
            self.check(is_heap(random_heap(seed)), True)

    def test_not_a_pair_of_tuples(self):
        for value in [None, True, False, 0, 1, 10 ** 99, "", "ab", [], (), ((),), ((), (), ()), [(), ()], ([], ()),
                      ((), []), (None, ()), ((), None), ("", ""), ("a", "b"), ("", ()), (0, 0), ((), 0), (0, ()),
                      (True, True)]:
            self.check(is_heap(value), False)

    def test_lengths(self):
        for value in [(((),), ()), ((), (1,)), (((), ()), (1,)), (((),), (1, 1)), (((),) * 41, (1,) * 41),
                      (((0,) * 41,), (0,)), (((None,) * 41,), (1,)), ((None,) * 41, (0,) * 41)]:
            self.check(is_heap(value), False)

    def test_kinds_of_slots(self):
        for row in [[], [0], 0, True, False, "", "0", (True,), (False,), (-1,), (1,), (40,), (10 ** 99,), ("0",),
                    ((),), ([],), ((0,),), (0, 0, True)]:
            self.check(is_heap(((row,), (1,))), False)
        self.check(is_heap(((((), [])), (1, 1))), False)

    def test_kinds_of_outside_references(self):
        for number in [True, False, None, -1, 10, 11, 10 ** 99, "1", "", (), (1,), [1]]:
            self.check(is_heap((((0,),), (number,))), False)
            self.check(is_heap(((None,), (number,))), False)

    def test_free_nodes(self):
        for value in [((None,), (1,)), (((1,), None), (1, 0)), ((None, (None, 0)), (0, 1)), ((None, None), (0, 9))]:
            self.check(is_heap(value), False)

    def test_counts_of_0(self):
        for value in [(((),), (0,)), (((1,), ()), (0, 0)), (((0,), ()), (0, 0)), (((None,),), (0,))]:
            self.check(is_heap(value), False)

    def test_agrees_with_the_definition_on_all_small_values(self):
        entries = [None, 0, 1, 2]
        rows = [None] + [row for size in range(3) for row in itertools.product(entries, repeat=size)]
        for slots in itertools.product(rows, repeat=2):
            for outside in itertools.product([0, 1], repeat=2):
                self.check(is_heap((slots, outside)), self.defined(slots, outside))

    def defined(self, slots, outside):
        held = [entry for row in slots if row is not None for entry in row if entry is not None]
        if any(entry >= len(slots) or slots[entry] is None for entry in held):
            return False
        return all(outside[v] == 0 if slots[v] is None else outside[v] + held.count(v) > 0 for v in range(len(slots)))


class MakeHeapTest(StrictCase):
    def refused(self, reason, node, slots, outside):
        self.fails(InvalidHeap, {"reason": reason, "node": node}, make_heap, slots, outside)

    def test_examples(self):
        self.check(make_heap([[1, 1], [None]], [1, 0]), (((1, 1), (None,)), (1, 0)))
        self.refused("free", 1, [[1], None], [1, 0])

    def test_lists_and_tuples(self):
        for heap in HEAPS + [FORTY, FORTY_SLOTS]:
            slots, outside = heap
            for rows in [slots, lists_of(slots), list(slots), tuple(lists_of(slots))]:
                for numbers in [outside, list(outside)]:
                    self.check(make_heap(rows, numbers), heap)
        self.check(make_heap(outside=[1], slots=[[None]]), (((None,),), (1,)))

    def test_the_heap_is_new(self):
        row, numbers = [1, None], [1, 0]
        rows = [row, []]
        heap = make_heap(rows, numbers)
        row.append(0)
        rows[1] = None
        numbers[0] = 5
        self.check(heap, (((1, None), ()), (1, 0)))

    def test_shape(self):
        for slots, outside in [(None, []), ([], None), ("", ""), ("", []), ([], ""), (0, 0), (True, True), ([[]], []),
                               ([], [1]), ([[]], [1, 1]), ([[]] * 41, [1] * 41), ((None,) * 41, (0,) * 41),
                               ([[]] * 41, [1] * 40)]:
            self.refused("shape", -1, slots, outside)

    def test_slots(self):
        for row in [0, True, False, "", "0", [True], [False], [-1], [3], [40], [10 ** 99], ["0"], [[]], [()], [None] * 41,
                    (0,) * 41, [0, None, 3]]:
            self.refused("slots", 1, [[0, 1, 2], row, row], [1, 1, 1])
        self.refused("slots", 0, [[1]], [1])

    def test_outside(self):
        for number in [True, False, None, -1, 10, 10 ** 99, "1", [1], (1,), ()]:
            self.refused("outside", 1, [[0], [0], [0]], [0, number, number])
            self.refused("outside", 0, [None, [0], [0]], [number, 1, number])

    def test_free(self):
        self.refused("free", 1, [[], None, None], [1, 2, 1])
        self.refused("free", 0, [None, [None, 0]], [0, 1])
        self.refused("free", 2, [None, [2], None], [0, 1, 0])
        self.refused("free", 1, [[2], None, None], [1, 1, 0])

    def test_count(self):
        self.refused("count", 1, [[], [], []], [1, 0, 0])
        self.refused("count", 0, [[1], [1]], [0, 0])
        self.refused("count", 2, [[1], [0, None], [0]], [0, 0, 0])

    def test_order_of_the_reasons(self):
        self.refused("shape", -1, [True, None, []], [10, 1])
        self.refused("slots", 3, [None, [0], [], [9]], [10, 1, 0, 1])
        self.refused("outside", 3, [None, [0], [], []], [0, 1, 0, 10])
        self.refused("free", 3, [[], [], [], None], [0, 1, 1, 1])
        self.refused("count", 0, [[], [], [], None], [0, 1, 0, 0])

    def test_accepts_what_is_heap_accepts(self):
        for seed in range(100):
            heap = random_heap(seed)
            self.check(make_heap(*lists_of(heap)), heap)


class NodesTest(StrictCase):
    def test_example(self):
        heap = (((1, 1), (None,), None), (1, 0, 0))
        self.check([live_nodes(heap), counts(heap)], [[0, 1], (1, 2, None)])

    def test_edges(self):
        self.check([live_nodes(EMPTY), counts(EMPTY)], [[], ()])
        self.check([live_nodes(HOLES), counts(HOLES)], [[0, 2, 4, 5], (1, None, 1, None, 1, 1)])
        self.check([live_nodes(LOOP), counts(LOOP)], [[0, 1], (2, 1)])
        self.check([live_nodes(APART), counts(APART)], [[0, 1, 2, 3], (1, 1, 1, 1)])
        self.check(counts(TWICE), (1, 2))
        self.check(counts((((0, None, 0, 1), (1, 0, None)), (9, 0))), (12, 2))
        self.check(counts(FORTY_SLOTS), (40,))
        self.check([live_nodes(FORTY), counts(FORTY)], [list(range(40)), (1,) * 40])
        self.check([live_nodes(((None, None), (0, 0))), counts(((None, None), (0, 0)))], [[], (None, None)])

    def test_by_the_definition(self):
        for heap in HEAPS + [random_heap(seed) for seed in range(200)]:
            self.check(live_nodes(heap), plain_live(heap))
            self.check(counts(heap), plain_counts(heap))


class HoldersTest(StrictCase):
    def test_examples(self):
        heap = (((1, None, 1), (1,)), (1, 0))
        self.check(holders(heap, 1), [(0, 0), (0, 2), (1, 0)])
        self.fails(NoNode, {"node": 2}, holders, heap, 2)

    def test_edges(self):
        self.check(holders(heap=LOOP, node=0), [(0, 0)])
        self.check(holders(APART, 0), [(1, 0)])
        self.check(holders(APART, 2), [])
        self.check(holders(TWICE, 1), [(0, 0), (0, 1)])
        self.check(holders(HOLES, 4), [(0, 3)])
        self.check(holders(FORTY_SLOTS, 0), [(0, slot) for slot in range(40)])

    def test_by_the_definition(self):
        for heap in HEAPS + [random_heap(seed) for seed in range(200)]:
            for node in plain_live(heap):
                expected = [(v, i) for v in plain_live(heap) for i in range(len(heap[0][v])) if heap[0][v][i] == node]
                self.check(holders(heap, node), expected)

    def test_no_node(self):
        for node in NO_NODES + [1, 3, 6]:
            self.fails(NoNode, {"node": node}, holders, HOLES, node)
            self.fails(NoNode, {"node": node}, holders, EMPTY, node)


if __name__ == "__main__":
    unittest.main()
