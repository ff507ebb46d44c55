"""Point 28: checking certificates of fate."""

import itertools
import unittest

from slotfall.errors import InvalidCertificate, NoNode, NoReference
from slotfall.fatechecker import check_fate
from slotfall.fates import fate, freed
from tests.support import (EMPTY, HEAPS, HOLES, MANY, NO_CERTIFICATES, NO_NODES, StrictCase, droppable, plain_live,
                           random_heap)

RINGED = (((1,), (2,), (1,)), (1, 0, 0))
# Dropping 0 destroys 0, 1 and 2; 3 holds itself; 4 has two outside references; 6 is free.
MIXED = (((1, 2, 3), (2,), (), (3, 5), (5,), (), None), (1, 0, 0, 0, 2, 0, 0))


class AcceptedTest(StrictCase):
    def test_example(self):
        found = [check_fate(RINGED, 0, 0, ("freed", (0,))), check_fate(RINGED, 0, 2, ("kept", (2, 1, 2)))]
        self.check(found, ["freed", "kept"])

    def test_any_order(self):
        heap = (((1, 2, 3), (), (), (1,)), (1, 0, 0, 0))
        for order in [(0, 2), (0, 3, 2), (0, 3, 1, 2)]:
            self.check(check_fate(heap, 0, 2, ("freed", order)), "freed")
        self.check(check_fate(heap=heap, node=0, target=1, value=("freed", (0, 2, 3, 1))), "freed")
        self.check(check_fate(MIXED, 0, 2, ("freed", (0, 1, 2))), "freed")

    def test_any_walk(self):
        for walk in [(3, 3), (3, 3, 3), (3, 3, 3, 3)]:
            self.check(check_fate(MIXED, 0, 3, ("kept", walk)), "kept")
        for walk in [(5, 4), (5, 3, 3), (5, 3, 3, 3, 3)]:
            self.check(check_fate(MIXED, 0, 5, ("kept", walk)), "kept")
        self.check(check_fate(MIXED, 4, 4, ("kept", (4,))), "kept")
        self.check(check_fate(MIXED, 4, 2, ("kept", (2, 1, 0))), "kept")
        for walk in [(2, 1, 2), (2, 1, 2, 1), (2, 1, 2, 1, 2), (2, 1) * 100, (2, 1) * 100 + (2,)]:
            self.check(check_fate(RINGED, 0, 2, ("kept", walk)), "kept")

    def test_what_the_library_returns(self):
        for heap in HEAPS + [MIXED, RINGED] + [random_heap(seed) for seed in range(200)]:
            for node in droppable(heap):
                gone = freed(heap, node)
                for target in plain_live(heap):
                    found = check_fate(heap, node, target, fate(heap, node, target))
                    self.check(found, "freed" if target in gone else "kept")


class RefusedTest(StrictCase):
    def refused(self, reason, index, *arguments):
        self.refuses(InvalidCertificate, reason, index, check_fate, *arguments)

    def test_example(self):
        self.refused("end", -1, RINGED, 0, 2, ("kept", (2, 1, 0)))

    def test_errors_of_the_drop_and_the_target_come_first(self):
        for node in NO_NODES + [1, 3, 6]:
            for target in (0, "target", node):
                self.fails(NoNode, {"node": node}, check_fate, HOLES, node, target, None)
                self.fails(NoNode, {"node": node}, check_fate, EMPTY, node, target, ("freed", (0,)))
        for node in (2, 4, 5):
            for target in (0, 1, None):
                self.fails(NoReference, {"node": node}, check_fate, HOLES, node, target, ("kept", ()))
        for target in NO_NODES + [1, 3, 6]:
            for value in (None, ("freed", (0,)), ("kept", (0,)), ("kept", (target,))):
                self.fails(NoNode, {"node": target}, check_fate, HOLES, 0, target, value)

    def test_shape(self):
        for value in NO_CERTIFICATES + [("freed",), ("kept", ()), ("freed", ()), ("freed", [0]), ["freed", (0,)],
                                        ("freed", (0,), 0), ("reached", (0,)), ("unreached", (0,)), ("Freed", (0,)),
                                        ("freed", 0), ("kept", None), ("kept", "3"), (("freed",), (0,))]:
            self.refused("shape", -1, MIXED, 0, 0, value)
            self.refused("shape", -1, MANY, 0, 0, value)

    def test_node_in_an_order(self):
        for entry in NO_NODES + [6, 7]:
            self.refused("node", 0, MIXED, 0, 0, ("freed", (entry,)))
            self.refused("node", 1, MIXED, 0, 1, ("freed", (0, entry)))
            self.refused("node", 2, MIXED, 0, 2, ("freed", (0, 1, entry, 2)))
        self.refused("node", 1, MIXED, 0, 0, ("freed", (0, 0)))
        self.refused("node", 2, MIXED, 0, 1, ("freed", (0, 1, 1)))
        self.refused("node", 2, MIXED, 0, 1, ("freed", (0, 1, 0, 4)))

    def test_start_of_an_order(self):
        for entry in (1, 2, 3, 4, 5):
            self.refused("start", 0, MIXED, 0, 1, ("freed", (entry, True)))
        self.refused("start", 0, MIXED, 4, 0, ("freed", (0,)))

    def test_outside(self):
        self.refused("outside", 0, MIXED, 4, 4, ("freed", (4,)))
        self.refused("outside", 1, MIXED, 0, 4, ("freed", (0, 4)))
        self.refused("outside", 0, MANY, 0, 3, ("freed", (0, 1, 3)))
        heap = (((1,), (0,)), (1, 1))
        self.refused("held", 0, heap, 0, 1, ("freed", (0, 1)))
        self.refused("outside", 0, (((0,),), (2,)), 0, 0, ("freed", (0,)))

    def test_held(self):
        self.refused("held", 1, MIXED, 0, 2, ("freed", (0, 2)))
        self.refused("held", 1, MIXED, 0, 2, ("freed", (0, 2, 1)))
        self.refused("held", 1, MIXED, 0, 3, ("freed", (0, 3)))
        self.refused("held", 1, RINGED, 0, 1, ("freed", (0, 1, 2)))
        self.refused("held", 0, (((0,),), (1,)), 0, 0, ("freed", (0,)))
        self.refused("held", 2, MIXED, 0, 5, ("freed", (0, 1, 5)))

    def test_end_of_an_order(self):
        self.refused("end", -1, MIXED, 0, 0, ("freed", (0, 1)))
        self.refused("end", -1, MIXED, 0, 2, ("freed", (0, 1)))
        self.refused("end", -1, MIXED, 0, 4, ("freed", (0,)))

    def test_node_in_a_walk(self):
        for entry in NO_NODES + [6, 7]:
            self.refused("node", 0, MIXED, 0, 5, ("kept", (entry,)))
            self.refused("node", 1, MIXED, 0, 5, ("kept", (5, entry)))
            self.refused("node", 2, MIXED, 0, 5, ("kept", (5, 3, entry)))

    def test_start_of_a_walk(self):
        self.refused("start", 0, MIXED, 0, 5, ("kept", (4,)))
        self.refused("start", 0, MIXED, 0, 5, ("kept", (3, True)))

    def test_step(self):
        self.refused("step", 1, MIXED, 0, 5, ("kept", (5, 5)))
        self.refused("step", 1, MIXED, 0, 5, ("kept", (5, 0)))
        self.refused("step", 2, MIXED, 0, 5, ("kept", (5, 3, 5)))
        self.refused("step", 1, MIXED, 0, 1, ("kept", (1, 2, None)))

    def test_end_of_a_walk(self):
        self.refused("end", -1, MIXED, 0, 5, ("kept", (5,)))
        self.refused("end", -1, MIXED, 0, 5, ("kept", (5, 3)))
        self.refused("end", -1, MIXED, 0, 1, ("kept", (1, 0)))
        self.refused("end", -1, MIXED, 0, 0, ("kept", (0,)))

    def test_all_short_certificates(self):
        for heap in [random_heap(seed, most=4, width=2) for seed in range(30)]:
            for node in droppable(heap):
                for size in (1, 2, 3):
                    for entries in itertools.product(range(len(heap[0])), repeat=size):
                        for target in plain_live(heap):
                            self.agrees(heap, node, target, "freed", entries, first_order_problem)
                            self.agrees(heap, node, target, "kept", entries, first_walk_problem)

    def agrees(self, heap, node, target, label, entries, first_problem):
        problem = first_problem(heap, node, target, entries)
        if problem is None:
            self.check(check_fate(heap, node, target, (label, entries)), label)
            self.assertEqual(target in freed(heap, node), label == "freed")
        else:
            self.refused(*problem, heap, node, target, (label, entries))


def first_order_problem(heap, node, target, order):
    slots, outside = heap
    for i, entry in enumerate(order):
        if slots[entry] is None or entry in order[:i]:
            return ("node", i)
        if i == 0 and entry != node:
            return ("start", 0)
        if outside[entry] - (entry == node) > 0:
            return ("outside", i)
        for v in plain_live(heap):
            if entry in slots[v] and v not in order[:i]:
                return ("held", i)
    return None if order[-1] == target else ("end", -1)


def first_walk_problem(heap, node, target, walk):
    slots, outside = heap
    for i, entry in enumerate(walk):
        if slots[entry] is None:
            return ("node", i)
        if i == 0 and entry != target:
            return ("start", 0)
        if i > 0 and walk[i - 1] not in slots[entry]:
            return ("step", i)
    last = walk[-1]
    return None if outside[last] - (last == node) > 0 or last in walk[:-1] else ("end", -1)


if __name__ == "__main__":
    unittest.main()
