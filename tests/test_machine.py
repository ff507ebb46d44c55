"""Points 6 to 8 and 22 to 24: drops and changes of slots."""

import unittest

from slotfall.errors import NoNode, NoReference, NoSlot
from slotfall.heaps import is_heap
from slotfall.machine import drop, empty_slots, set_slot
from tests.support import (APART, BINARY, EMPTY, HEAPS, HOLES, LONG_PATH, LOOP, MANY, NO_NODES, PATH, RING, SHARED, STAR,
                           TREE, TWICE, WIDE_STAR, Model, StrictCase, droppable, plain_live, random_heap)

GREAT = 10 ** 30


def limits_for(heap):
    return [1, 2, 3, 4, max(1, len(heap[0])), GREAT]


def gone(n):
    """The heap in which all n nodes are free."""
    return ((None,) * n, (0,) * n)


class DropTest(StrictCase):
    def test_examples(self):
        heap = (((1, 2), (3,), (), ()), (1, 0, 0, 0))
        self.check(drop(heap, 0, limit=1), ((0, 2, 1, 3), 2, gone(4)))
        self.check(drop(heap, 0, limit=2), ((0, 1, 2, 3), 1, gone(4)))
        self.fails(NoReference, {"node": 1}, drop, (((1,), ()), (1, 0)), 1, limit=5)

    def expect(self, heap, *rows):
        """Each row is a limit, a log and a peak; all nodes of the heap are destroyed."""
        for limit, log, peak in rows:
            self.check(drop(heap, 0, limit=limit), (log, peak, gone(len(heap[0]))))

    def test_trees(self):
        self.expect(TREE, (3, (0, 1, 3, 2), 0), (4, (0, 1, 3, 2), 0), (GREAT, (0, 1, 3, 2), 0))
        for limit, peak in [(1, 1), (2, 1), (3, 1), (4, 0), (GREAT, 0)]:
            self.expect(PATH, (limit, (0, 1, 2, 3), peak))
        self.expect(STAR, (1, (0, 4, 3, 2, 1), 4), (2, (0, 1, 2, 3, 4), 0), (GREAT, (0, 1, 2, 3, 4), 0))
        self.expect(BINARY, (1, (0, 2, 6, 5, 1, 4, 3), 3), (2, (0, 1, 2, 6, 5, 4, 3), 4),
                    (3, (0, 1, 3, 4, 2, 5, 6), 0), (7, (0, 1, 3, 4, 2, 5, 6), 0), (GREAT, (0, 1, 3, 4, 2, 5, 6), 0))

    def test_shared_nodes(self):
        self.expect(SHARED, (1, (0, 1, 2), 1), (2, (0, 1, 2), 0), (3, (0, 1, 2), 0), (GREAT, (0, 1, 2), 0))
        self.expect(TWICE, (1, (0, 1), 1), (2, (0, 1), 0), (GREAT, (0, 1), 0))
        # Node 4 goes with the last of its holders, which the limit chooses.
        heap = (((1, 2), (4,), (3, 4), (), ()), (1, 0, 0, 0, 0))
        self.expect(heap, (1, (0, 2, 3, 1, 4), 2), (2, (0, 1, 2, 4, 3), 2), (3, (0, 1, 2, 3, 4), 0))

    def test_nodes_that_stay(self):
        self.check(drop(MANY, 0, limit=1), ((), 0, (MANY[0], (2, 1, 0, 0))))
        self.check(drop(LOOP, 0, limit=1), ((), 0, (LOOP[0], (0, 0))))
        self.check(drop(RING, 0, limit=3), ((), 0, (RING[0], (0, 0, 0, 0))))
        self.check(drop((((0, 0),), (9,)), 0, limit=1), ((), 0, (((0, 0),), (8,))))
        heap = (((1, 2), (3,), (), ()), (1, 1, 0, 0))
        self.check(drop(heap, 0, limit=1), ((0, 2), 1, ((None, (3,), None, ()), (0, 1, 0, 0))))
        heap = (((1, 1, 2), (2, 3), (1,), ()), (1, 0, 0, 0))
        self.check(drop(heap, 0, limit=2), ((0,), 0, ((None, (2, 3), (1,), ()), (0, 0, 0, 0))))

    def test_holes_and_free_nodes(self):
        self.expect(HOLES, (1, (0, 4, 2, 5), 2), (2, (0, 2, 4, 5), 1), (3, (0, 2, 5, 4), 0), (GREAT, (0, 2, 5, 4), 0))
        self.check(drop((((),), (1,)), 0, limit=1), ((0,), 0, gone(1)))
        self.check(drop((((None,) * 40,), (1,)), 0, limit=GREAT), ((0,), 0, gone(1)))
        self.check(drop(APART, 2, limit=1), ((2, 3), 1, (((1,), (0,), None, None), (0, 0, 0, 0))))

    def test_shelved_deeper(self):
        # A node from the shelf starts anew at depth 0, so that with limit 2 nodes 5 and 6 are not shelved.
        heap = (((1,), (2, 3), (4,), (5, 6), (), (), ()), (1, 0, 0, 0, 0, 0, 0))
        self.expect(heap, (1, (0, 1, 3, 6, 5, 2, 4), 3), (2, (0, 1, 3, 5, 6, 2, 4), 2),
                    (3, (0, 1, 2, 3, 6, 5, 4), 3), (4, (0, 1, 2, 4, 3, 5, 6), 0))

    def test_forty_nodes(self):
        all_nodes = tuple(range(40))
        for limit, peak in [(1, 1), (2, 1), (39, 1), (40, 0), (41, 0), (GREAT, 0)]:
            self.expect(LONG_PATH, (limit, all_nodes, peak))
        self.expect(WIDE_STAR, (1, (0,) + all_nodes[:0:-1], 39), (2, all_nodes, 0), (GREAT, all_nodes, 0))

    def test_agrees_with_the_second_machine(self):
        for heap in HEAPS + [random_heap(seed) for seed in range(300)] + [random_heap(n, 40) for n in range(40)]:
            for node in droppable(heap):
                for limit in limits_for(heap):
                    found = drop(heap=heap, node=node, limit=limit)
                    self.check(found, Model(heap, limit).drop(node).result())
                    self.assertTrue(is_heap(found[2]))

    def test_errors(self):
        for node in NO_NODES + [1, 3, 6]:
            self.fails(NoNode, {"node": node}, drop, HOLES, node, limit=1)
            self.fails(NoNode, {"node": node}, drop, EMPTY, node, limit=1)
        for node in (2, 4, 5):
            self.fails(NoReference, {"node": node}, drop, HOLES, node, limit=1)
        self.fails(NoReference, {"node": 0}, drop, APART, 0, limit=GREAT)


class SetSlotTest(StrictCase):
    def test_examples(self):
        self.check(set_slot((((1,), (0,)), (0, 1)), 1, 0, None, limit=9), ((0,), 0, ((None, (None,)), (0, 1))))
        self.check(set_slot((((1,), ()), (1, 0)), 0, 0, 0, limit=9), ((1,), 0, (((0,), None), (1, 0))))

    def test_empty_slots(self):
        heap = (((None, 1), (None,), None), (1, 0, 0))
        self.check(set_slot(heap, 0, 0, 1, limit=1), ((), 0, (((1, 1), (None,), None), (1, 0, 0))))
        self.check(set_slot(heap, 1, 0, 1, limit=1), ((), 0, (((None, 1), (1,), None), (1, 0, 0))))
        self.check(set_slot(heap, 0, 0, None, limit=1), ((), 0, heap))

    def test_the_same_content(self):
        for heap in [TREE, LOOP, RING, TWICE, APART, HOLES]:
            for node in plain_live(heap):
                for slot, held in enumerate(heap[0][node]):
                    self.check(set_slot(heap, node, slot, held, limit=1), ((), 0, heap))

    def test_what_is_destroyed(self):
        self.check(set_slot(TREE, 0, 0, None, limit=1), ((1, 3), 1, (((None, 2), None, (), None), (1, 0, 0, 0))))
        self.check(set_slot(TREE, 0, 0, 3, limit=1), ((1,), 0, (((3, 2), None, (), ()), (1, 0, 0, 0))))
        self.check(set_slot(TREE, 0, 0, 2, limit=2), ((1, 3), 0, (((2, 2), None, (), None), (1, 0, 0, 0))))
        heap = (((1,), (2, 3), (), (4,), ()), (1, 0, 0, 0, 0))
        after = (((None,), None, None, None, None), (1, 0, 0, 0, 0))
        for limit, log, peak in [(1, (1, 3, 4, 2), 2), (2, (1, 2, 3, 4), 1), (3, (1, 2, 3, 4), 0)]:
            self.check(set_slot(heap, 0, 0, None, limit=limit), (log, peak, after))

    def test_the_node_itself_is_destroyed(self):
        ring = (((1,), (0,), ()), (0, 0, 1))
        self.check(set_slot(ring, 0, 0, None, limit=9), ((1, 0), 0, ((None, None, ()), (0, 0, 1))))
        self.check(set_slot(ring, 0, 0, 2, limit=1), ((1, 0), 1, ((None, None, ()), (0, 0, 1))))
        self.check(set_slot(ring, 0, 0, 0, limit=9), ((1,), 0, (((0,), None, ()), (0, 0, 1))))
        alone = (((0, 1), ()), (0, 0))
        self.check(set_slot(alone, 0, 0, None, limit=9), ((0, 1), 0, gone(2)))
        self.check(set_slot(alone, 0, 0, 1, limit=1), ((0, 1), 1, gone(2)))
        self.check(set_slot(alone, 0, 1, None, limit=9), ((1,), 0, (((0, None), None), (0, 0))))

    def test_nine_outside_references(self):
        heap = (((1,), ()), (1, 9))
        self.check(set_slot(heap, 0, 0, None, limit=1), ((), 0, (((None,), ()), (1, 9))))
        self.check(set_slot(heap, 0, 0, 0, limit=1), ((), 0, (((0,), ()), (1, 9))))
        self.check(set_slot(heap, 0, 0, 1, limit=1), ((), 0, heap))
        self.check(set_slot((((None,),), (9,)), 0, 0, 0, limit=1), ((), 0, (((0,),), (9,))))

    def test_agrees_with_the_second_machine(self):
        for heap in HEAPS[:-2] + [random_heap(seed, 6) for seed in range(150)]:
            for node in plain_live(heap):
                for slot in range(len(heap[0][node])):
                    for target in plain_live(heap) + [None]:
                        for limit in (1, 2, 3, GREAT):
                            found = set_slot(heap=heap, node=node, slot=slot, target=target, limit=limit)
                            self.check(found, Model(heap, limit).set_slot(node, slot, target).result())
                            self.assertTrue(is_heap(found[2]))

    def test_errors(self):
        no_slots = [True, False, -1, 2, 4, 10 ** 99, "0", "", None, [0], (0,), ()]
        for node in NO_NODES + [1, 3, 6]:
            self.fails(NoNode, {"node": node}, set_slot, HOLES, node, 0, 0, limit=1)
            self.fails(NoNode, {"node": node}, set_slot, HOLES, node, "slot", "target", limit=1)
            self.fails(NoNode, {"node": node}, set_slot, EMPTY, node, 0, None, limit=1)
        for slot in no_slots:
            self.fails(NoSlot, {"slot": slot}, set_slot, HOLES, 2, slot, 0, limit=1)
            self.fails(NoSlot, {"slot": slot}, set_slot, HOLES, 2, slot, 1, limit=1)
            self.fails(NoSlot, {"slot": slot}, set_slot, HOLES, 4, slot, "target", limit=1)
        self.fails(NoSlot, {"slot": 0}, set_slot, HOLES, 4, 0, None, limit=1)
        for target in [value for value in NO_NODES if value is not None] + [1, 3, 6]:
            self.fails(NoNode, {"node": target}, set_slot, HOLES, 2, 0, target, limit=1)
            self.fails(NoNode, {"node": target}, set_slot, HOLES, 2, 1, target, limit=1)


class EmptySlotsTest(StrictCase):
    def test_example(self):
        heap = (((1, 2), (0,), ()), (0, 0, 1))
        self.check(empty_slots(heap, 0, limit=9), ((1, 0), 0, ((None, None, ()), (0, 0, 1))))

    def test_nothing_to_empty(self):
        for heap, node in [(TREE, 3), (TREE, 2), ((((),), (9,)), 0), ((((None, None),), (1,)), 0)]:
            self.check(empty_slots(heap, node, limit=1), ((), 0, heap))

    def test_a_node_that_holds_itself(self):
        self.check(empty_slots((((0,),), (0,)), 0, limit=1), ((0,), 0, gone(1)))
        self.check(empty_slots((((0, 0),), (1,)), 0, limit=1), ((), 0, (((None, None),), (1,))))
        self.check(empty_slots((((0, 1, 0), ()), (0, 0)), 0, limit=1), ((1, 0), 0, gone(2)))

    def test_cycles(self):
        ring = (((1,), (2,), (0, 3), ()), (0, 0, 0, 0))
        self.check(empty_slots(ring, 0, limit=9), ((1, 2, 3, 0), 0, gone(4)))
        self.check(empty_slots(ring, 0, limit=1), ((1, 2, 3, 0), 1, gone(4)))
        self.check(empty_slots(ring, 2, limit=9), ((0, 1, 3, 2), 0, gone(4)))
        self.check(empty_slots(RING, 1, limit=9), ((2, 3), 0, (((1,), (None,), None, None), (1, 0, 0, 0))))

    def test_nine_outside_references(self):
        heap = (((1, 0, None), ()), (9, 9))
        self.check(empty_slots(heap, 0, limit=1), ((), 0, (((None, None, None), ()), (9, 9))))

    def test_the_greatest_peak(self):
        heap = (((1, 2, 3), (4,), (5, 6), (7,)) + ((),) * 4, (1,) + (0,) * 7)
        after = (((None,) * 3,) + (None,) * 7, (1,) + (0,) * 7)
        self.check(empty_slots(heap, 0, limit=1), ((1, 4, 2, 6, 5, 3, 7), 2, after))
        self.check(empty_slots(heap, 0, limit=2), ((1, 4, 2, 5, 6, 3, 7), 0, after))

    def test_forty_slots(self):
        after = (((None,) * 40,) + (None,) * 39, (1,) + (0,) * 39)
        self.check(empty_slots(WIDE_STAR, 0, limit=1), (tuple(range(1, 40)), 0, after))

    def test_agrees_with_the_second_machine(self):
        for heap in HEAPS + [random_heap(seed) for seed in range(300)]:
            for node in plain_live(heap):
                for limit in limits_for(heap):
                    found = empty_slots(heap=heap, node=node, limit=limit)
                    self.check(found, Model(heap, limit).empty_slots(node).result())
                    self.assertTrue(is_heap(found[2]))

    def test_no_node(self):
        for node in NO_NODES + [1, 3, 6]:
            self.fails(NoNode, {"node": node}, empty_slots, HOLES, node, limit=1)
            self.fails(NoNode, {"node": node}, empty_slots, EMPTY, node, limit=1)


if __name__ == "__main__":
    unittest.main()
