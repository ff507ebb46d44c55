"""Point 21: checking certificates of reach."""

import itertools
import unittest

from slotfall.errors import InvalidCertificate, NoNode
from slotfall.reach import reach_certificate, reachable
from slotfall.reachchecker import check_reach
from tests.support import APART, EMPTY, HEAPS, HOLES, NO_CERTIFICATES, NO_NODES, StrictCase, plain_live, random_heap

# Nodes 0, 1, 2 are reached; 3 and 4 are a ring, 6 holds itself and 3; 5 is free.
MIXED = (((1, 2), (2, 0), (), (4,), (3,), None, (6, 3)), (1, 0, 0, 0, 0, 0, 0))


class AcceptedTest(StrictCase):
    def test_examples(self):
        heap = (((1,), (0,), (3,), ()), (0, 0, 1, 0))
        found = [check_reach(heap, 3, ("reached", (2, 3))), check_reach(heap, 0, ("unreached", (0, 1)))]
        self.check(found, [True, False])
        self.refused("absent", -1, heap, 2, ("unreached", (0, 1)))

    def refused(self, reason, index, heap, node, value):
        self.refuses(InvalidCertificate, reason, index, check_reach, heap, node, value)

    def test_any_path(self):
        for path in [(0, 2), (0, 1, 2), (0, 1, 0, 1, 0, 2)]:
            self.check(check_reach(MIXED, 2, ("reached", path)), True)
        self.check(check_reach(heap=MIXED, node=0, value=("reached", (0, 1, 0))), True)
        self.check(check_reach(MIXED, 0, ("reached", (0,))), True)

    def test_any_closed_set(self):
        self.check(check_reach(MIXED, 6, ("unreached", (6,))), False)
        for node in (3, 4, 6):
            self.check(check_reach(MIXED, node, ("unreached", (3, 4, 6))), False)
        heap = (((0,), (2,), (1,)), (0, 0, 0))
        for node, entries in [(0, (0,)), (0, (0, 1, 2)), (1, (1, 2)), (2, (0, 1, 2))]:
            self.check(check_reach(heap, node, ("unreached", entries)), False)

    def test_what_the_library_returns(self):
        for heap in HEAPS + [MIXED] + [random_heap(seed) for seed in range(200)]:
            for node in plain_live(heap):
                self.check(check_reach(heap, node, reach_certificate(heap, node)), node in reachable(heap))


class RefusedTest(StrictCase):
    def refused(self, reason, index, heap, node, value):
        self.refuses(InvalidCertificate, reason, index, check_reach, heap, node, value)

    def test_no_node_comes_first(self):
        for node in NO_NODES + [1, 3, 6]:
            for value in [None, ("reached", (0,)), ("unreached", ())]:
                self.fails(NoNode, {"node": node}, check_reach, HOLES, node, value)
                self.fails(NoNode, {"node": node}, check_reach, EMPTY, node, value)

    def test_shape(self):
        values = NO_CERTIFICATES + [("reached",), ("reached", ()), ("unreached", ()), ("reached", [0]), ["reached", (0,)],
                                    ("reached", (0,), 0), ("freed", (0,)), ("kept", (0,)), ("Reached", (0,)),
                                    ("reached", 0), ("reached", None), ("unreached", "0"), (("reached",), (0,)),
                                    ("unreached", [3, 4, 6]), ("unreached", (3, 4, 6), None)]
        for value in values:
            self.refused("shape", -1, MIXED, 0, value)
            self.refused("shape", -1, MIXED, 3, value)

    def test_node_in_a_path(self):
        for entry in NO_NODES + [5, 7]:
            self.refused("node", 0, MIXED, 0, ("reached", (entry,)))
            self.refused("node", 0, MIXED, 0, ("reached", (entry, entry, 0)))
            self.refused("node", 1, MIXED, 0, ("reached", (0, entry)))
            self.refused("node", 2, MIXED, 2, ("reached", (0, 1, entry, 2)))

    def test_start(self):
        self.refused("start", 0, MIXED, 1, ("reached", (1,)))
        self.refused("start", 0, MIXED, 1, ("reached", (3, True)))
        self.refused("start", 0, MIXED, 0, ("reached", (1, 0)))

    def test_step(self):
        self.refused("step", 1, MIXED, 3, ("reached", (0, 3)))
        self.refused("step", 1, MIXED, 0, ("reached", (0, 0)))
        self.refused("step", 2, MIXED, 1, ("reached", (0, 2, 1, None)))
        self.refused("step", 2, MIXED, 0, ("reached", (0, 1, 1)))
        self.refused("step", 1, APART, 2, ("reached", (2, 1)))

    def test_end(self):
        self.refused("end", -1, MIXED, 2, ("reached", (0, 1)))
        self.refused("end", -1, MIXED, 3, ("reached", (0,)))
        self.refused("end", -1, MIXED, 0, ("reached", (0, 2)))

    def test_node_in_a_set(self):
        for entry in NO_NODES + [5, 7]:
            self.refused("node", 0, MIXED, 3, ("unreached", (entry,)))
            self.refused("node", 1, MIXED, 3, ("unreached", (0, entry, 1)))
            self.refused("node", 2, MIXED, 3, ("unreached", (3, 4, entry)))
        self.refused("node", 1, MIXED, 3, ("unreached", (4, 3)))
        self.refused("node", 2, MIXED, 3, ("unreached", (3, 4, 4, True)))
        self.refused("node", 1, MIXED, 6, ("unreached", (6, 6)))
        self.refused("node", 3, MIXED, 0, ("unreached", (0, 1, 4, 3)))

    def test_absent(self):
        self.refused("absent", -1, MIXED, 4, ("unreached", (3,)))
        self.refused("absent", -1, MIXED, 0, ("unreached", (3, 4, 6)))
        self.refused("absent", -1, MIXED, 3, ("unreached", (0, 1)))

    def test_outside_and_held(self):
        self.refused("outside", 0, MIXED, 0, ("unreached", (0, 1, 2)))
        self.refused("held", 0, MIXED, 3, ("unreached", (3, 4)))
        self.refused("held", 0, MIXED, 3, ("unreached", (3,)))
        self.refused("held", 0, MIXED, 1, ("unreached", (1,)))
        heap = (((), (0,), (1,), ()), (1, 0, 1, 1))
        self.refused("outside", 0, heap, 0, ("unreached", (0,)))
        self.refused("held", 0, heap, 1, ("unreached", (1, 3)))
        self.refused("outside", 1, heap, 1, ("unreached", (1, 2, 3)))
        self.refused("outside", 0, heap, 1, ("unreached", (0, 1)))
        heap = (((0,), (1,), (1,), ()), (0, 0, 1, 1))
        self.refused("held", 1, heap, 1, ("unreached", (0, 1)))
        self.refused("held", 1, heap, 0, ("unreached", (0, 1, 3)))

    def test_all_short_certificates(self):
        for heap in [random_heap(seed, most=4, width=2) for seed in range(30)]:
            live = plain_live(heap)
            for size in (1, 2, 3):
                for entries in itertools.product(range(len(heap[0])), repeat=size):
                    for node in live:
                        self.agrees(heap, node, ("reached", entries), first_path_problem(heap, node, entries))
                        self.agrees(heap, node, ("unreached", entries), first_set_problem(heap, node, entries))

    def agrees(self, heap, node, value, problem):
        if problem is None:
            self.check(check_reach(heap, node, value), value[0] == "reached")
            self.assertEqual(node in reachable(heap), value[0] == "reached")
        else:
            self.refused(*problem, heap, node, value)


def first_path_problem(heap, node, path):
    slots, outside = heap
    for i, entry in enumerate(path):
        if slots[entry] is None:
            return ("node", i)
        if i == 0 and not outside[entry]:
            return ("start", 0)
        if i > 0 and entry not in slots[path[i - 1]]:
            return ("step", i)
    return None if path[-1] == node else ("end", -1)


def first_set_problem(heap, node, entries):
    slots, outside = heap
    for i, entry in enumerate(entries):
        if slots[entry] is None or (i > 0 and entry <= entries[i - 1]):
            return ("node", i)
    if node not in entries:
        return ("absent", -1)
    for i, entry in enumerate(entries):
        if outside[entry]:
            return ("outside", i)
        for v in plain_live(heap):
            if v not in entries and entry in slots[v]:
                return ("held", i)
    return None


if __name__ == "__main__":
    unittest.main()
