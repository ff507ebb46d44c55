"""Point 34: checking release trees."""

import itertools
import unittest
from unittest import mock

from slotfall.errors import InvalidCertificate, NoNode, NoReference
from slotfall.machine import drop
from slotfall.releasetrees import release_tree
from slotfall.releasing import Releasing
from slotfall.treechecker import check_tree
from tests.release_trees import plain_release_tree, plain_slot_before
from tests.support import (APART, EMPTY, HEAPS, HOLES, LOOP, MANY, NO_CERTIFICATES, NO_NODES, PATH, SHARED, TREE, TWICE,
                           WIDE_STAR, StrictCase, droppable, plain_counts, plain_live, random_heap)

GREAT = 10 ** 30
LIMITS = [1, 2, 3, 40, GREAT]
# Dropping 0 destroys 0 to 4. Node 4 is held by 2 and 3, 5 has an outside reference, 6 holds itself, 7 is free.
MIXED = (((1, 2, 5), (3, 6), (4,), (4, None), (), (), (6, None), None), (1, 0, 0, 0, 0, 1, 0, 0))
MIXED_TREE = ((), (0, 0), (0, 1), (1, 0), (2, 0), None, None, None)
# A ring of 1 and 2, which the root holds at 1; both hold 3.
RINGED = (((1, None), (2, 3), (1, 3), ()), (1, 0, 0, 0))


def changed(tree, *changes):
    """The tree with other entries for some nodes, given as pairs of node and entry."""
    entries = list(tree)
    for v, entry in changes:
        entries[v] = entry
    return tuple(entries)


class AcceptedTest(StrictCase):
    def test_example(self):
        self.check(check_tree(SHARED, 0, ((), (0, 0), (0, 1)), limit=2), (0, 1, 2))

    def test_the_release_tree(self):
        for heap in HEAPS + [MIXED, RINGED] + [random_heap(seed) for seed in range(300)]:
            for node in droppable(heap):
                for limit in (1, 2, 3, max(1, len(heap[0])), GREAT):
                    log = drop(heap, node, limit=limit)[0]
                    self.check(check_tree(heap, node, release_tree(heap, node, limit=limit), limit=limit), log)
                    self.check(check_tree(heap, node, plain_release_tree(heap, node, limit), limit=limit), log)

    def test_great_heaps(self):
        heaps = [random_heap(seed, 40, 12) for seed in range(12)]
        full = (tuple(tuple(range(v + 1, 40)) for v in range(40)), (1,) + (0,) * 39)
        for heap in heaps + [full]:
            for node in droppable(heap)[:3]:
                for limit in (1, 2, 3, 40):
                    tree = release_tree(heap, node, limit=limit)
                    self.check(check_tree(heap=heap, node=node, value=tree, limit=limit),
                               drop(heap, node, limit=limit)[0])

    def test_nothing_is_destroyed(self):
        for heap, node in [(MANY, 0), (MANY, 1), (LOOP, 0), (RINGED[:1] + ((2, 0, 0, 0),), 0)]:
            for limit in LIMITS:
                self.check(check_tree(heap, node, (None,) * len(heap[0]), limit=limit), ())

    def test_other_trees_for_other_limits(self):
        other = changed(MIXED_TREE, (4, (3, 0)))
        for limit, right, wrong, log in [(1, other, MIXED_TREE, (0, 2, 1, 3, 4)), (2, other, MIXED_TREE, (0, 1, 2, 3, 4)),
                                         (3, MIXED_TREE, other, (0, 1, 3, 2, 4)),
                                         (GREAT, MIXED_TREE, other, (0, 1, 3, 2, 4))]:
            self.check(check_tree(MIXED, 0, right, limit=limit), log)
            self.fails(InvalidCertificate, {"reason": "late", "index": 4}, check_tree, MIXED, 0, wrong, limit=limit)

    def test_without_the_drop(self):
        with mock.patch.object(Releasing, "__init__", side_effect=AssertionError("the checker performs a drop")):
            self.check(check_tree(MIXED, 0, MIXED_TREE, limit=3), (0, 1, 3, 2, 4))
            self.fails(InvalidCertificate, {"reason": "late", "index": 4}, check_tree, MIXED, 0, MIXED_TREE, limit=1)


class RefusedTest(StrictCase):
    def refused(self, reason, index, heap, node, value, limits=LIMITS):
        for limit in limits:
            self.fails(InvalidCertificate, {"reason": reason, "index": index}, check_tree, heap, node, value, limit=limit)

    def test_example(self):
        self.refused("late", 2, SHARED, 0, ((), (0, 0), (0, 1)), [1])

    def test_errors_of_the_drop_come_first(self):
        for value in (None, "tree", (None,) * 6, ((), None, (0, 1), None, (0, 3), (2, 1))):
            for node in NO_NODES + [1, 3, 6]:
                self.fails(NoNode, {"node": node}, check_tree, HOLES, node, value, limit=1)
                self.fails(NoNode, {"node": node}, check_tree, EMPTY, node, value, limit=1)
            for node in (2, 4, 5):
                self.fails(NoReference, {"node": node}, check_tree, HOLES, node, value, limit=2)
        self.fails(NoReference, {"node": 0}, check_tree, APART, 0, (), limit=1)

    def test_shape(self):
        good = ((), (0, 0), (0, 1), (1, 0))
        self.check(check_tree(TREE, 0, good, limit=1), (0, 2, 1, 3))
        for value in NO_CERTIFICATES + [list(good), good[:3], good + (None,), good + ((),), [good], (good,)]:
            self.refused("shape", -1, TREE, 0, value)
            self.refused("shape", -1, MANY, 0, value)
        for entry in [[], [0, 0], (0,), (0, 0, 0), (True, 0), (0, True), (False, False), (0, None), ("0", 0), (0, "0"),
                      ((0,), 0), ([0], 0), ((), ()), True, False, 0, -1, 10 ** 99, "", "()", "ab", ((),), (None, None)]:
            for v in range(4):
                self.refused("shape", -1, TREE, 0, changed(good, (v, entry)))
                self.refused("shape", -1, MANY, 0, changed((None,) * 4, (v, entry)))
            # Before a wrong root and wrong slots.
            self.refused("shape", -1, TREE, 0, (None, (), (9, 9), entry))

    def test_root(self):
        self.refused("root", 0, TREE, 0, (None,) * 4)
        self.refused("root", 0, TREE, 0, (None, (), (0, 1), (1, 0)))
        self.refused("root", 0, TREE, 0, ((0, 0), (0, 0), (0, 1), (1, 0)))
        self.refused("root", 2, TREE, 0, ((), (0, 0), (), (1, 0)))
        self.refused("root", 1, TREE, 0, ((), (), (9, 9), ()))
        later = (((3,), (0, 2), (), ()), (0, 1, 0, 0))
        self.check(check_tree(later, 1, ((1, 0), (), (1, 1), (0, 0)), limit=1), (1, 2, 0, 3))
        self.refused("root", 0, later, 1, ((), None, (1, 1), (0, 0)))
        self.refused("root", 1, later, 1, ((1, 0), None, (), ()))
        self.refused("root", 1, later, 1, ((1, 0), (1, 0), (), (0, 0)))

    def test_root_where_nothing_is_destroyed(self):
        for entry in [(), (0, 0), (9, 9)]:
            for v in range(4):
                self.refused("root", v, MANY, 0, changed((None,) * 4, (v, entry)))
                self.refused("root", v, MANY, 1, changed((None,) * 4, (v, entry), (3, ())))
        self.refused("root", 1, LOOP, 0, (None, (0, 1)))
        self.refused("root", 0, LOOP, 0, ((), (0, 1)))

    def test_slot(self):
        for entry in [(0, 1), (0, 3), (0, -1), (0, -3), (0, 10 ** 99), (1, 0), (4, 0), (7, 0), (8, 0), (-1, 0), (-8, 0),
                      (10 ** 99, 0), (6, 1), (3, 1), (6, 0)]:
            self.refused("slot", 1, MIXED, 0, changed(MIXED_TREE, (1, entry)))
            self.refused("slot", 1, MIXED, 0, changed(MIXED_TREE, (1, entry), (2, (0, 2)), (4, None)))
        self.refused("slot", 5, MIXED, 0, changed(MIXED_TREE, (5, (0, 1))))
        self.refused("slot", 7, MIXED, 0, changed(MIXED_TREE, (7, (0, 1))))
        # The only slot of node 2 holds 4, and the first of two slots of node 3; no number below 0 is one of a slot.
        for entry in [(2, -1), (3, -2), (3, 1), (2, 1)]:
            self.refused("slot", 4, MIXED, 0, changed(MIXED_TREE, (4, entry)))
        # Before a cycle at a smaller node, and before nodes that are left out.
        self.refused("slot", 3, RINGED, 0, (((), (2, 0), (1, 0), (2, 0))))

    def test_cycle(self):
        self.refused("cycle", 1, RINGED, 0, ((), (2, 0), (1, 0), None))
        self.refused("cycle", 1, RINGED, 0, ((), (2, 0), (1, 0), (1, 1)))
        self.refused("cycle", 2, RINGED, 0, ((), None, (1, 0), None))
        self.refused("cycle", 3, RINGED, 0, ((), None, None, (2, 1)))
        self.refused("cycle", 6, MIXED, 0, changed(MIXED_TREE, (6, (6, 0))))
        self.refused("cycle", 3, MIXED, 0, changed(MIXED_TREE, (1, None)))
        self.refused("cycle", 4, MIXED, 0, changed(MIXED_TREE, (2, None)))
        # Before what is held: the nodes 1 and 5 here.
        self.refused("cycle", 4, MIXED, 0, changed(MIXED_TREE, (2, None), (5, (0, 2))))

    def test_a_long_cycle(self):
        # The nodes 1 to 39 are a ring; the root holds node 1.
        heap = (((1,),) + tuple((v % 39 + 1,) for v in range(1, 40)), (1,) + (0,) * 39)
        ring = ((),) + tuple(((v - 2) % 39 + 1, 0) for v in range(1, 40))
        self.refused("cycle", 1, heap, 0, ring)
        path = changed(ring, (1, (0, 0)))
        self.refused("late", 1, heap, 0, path)
        self.refused("cycle", 2, heap, 0, changed(path, (1, None)))
        self.refused("held", 1, heap, 0, changed(path, (39, None)))

    def test_held(self):
        self.refused("held", 5, MIXED, 0, changed(MIXED_TREE, (5, (0, 2))))
        self.refused("held", 4, MIXED, 0, changed(MIXED_TREE, (3, None)))
        self.refused("held", 1, RINGED, 0, ((), (0, 0), None, None))
        # With node 1 also held from outside, and node 2 by a node that stays.
        heap = (((1, 2), (), (), (2,)), (1, 3, 0, 1))
        self.refused("held", 1, heap, 0, ((), (0, 0), (0, 1), None))
        self.refused("held", 2, heap, 0, ((), None, (0, 1), None))
        # Before a node that is left out.
        self.refused("held", 5, MIXED, 0, changed(MIXED_TREE, (3, None), (4, None), (5, (0, 2))))

    def test_missing(self):
        self.refused("missing", 3, MIXED, 0, changed(MIXED_TREE, (3, None), (4, None)))
        self.refused("missing", 4, MIXED, 0, changed(MIXED_TREE, (4, None)))
        self.refused("missing", 1, MIXED, 0, ((),) + (None,) * 7)
        self.refused("missing", 1, TWICE, 0, ((), None))
        self.refused("missing", 2, PATH, 0, ((), (0, 0), None, None))
        self.refused("missing", 39, WIDE_STAR, 0, changed(release_tree(WIDE_STAR, 0, limit=1), (39, None)))
        # Nodes with an outside reference, in a ring, or free are not missing.
        heap = (((1, 2, 3), (), (2,), ()), (1, 1, 0, 0))
        self.check(check_tree(heap, 0, ((), None, None, (0, 2)), limit=1), (0, 3))

    def test_missing_comes_before_late(self):
        heap = (((1, 1, 2), (), ()), (1, 0, 0))
        self.refused("missing", 2, heap, 0, ((), (0, 0), None))
        self.refused("late", 1, heap, 0, ((), (0, 0), (0, 2)))
        self.check(check_tree(heap, 0, ((), (0, 1), (0, 2)), limit=1), (0, 2, 1))

    def test_late(self):
        self.refused("late", 1, TWICE, 0, ((), (0, 0)))
        self.refused("late", 2, SHARED, 0, ((), (0, 0), (1, 0)), [2, 3, 40, GREAT])
        self.refused("late", 2, SHARED, 0, ((), (0, 0), (0, 1)), [1])
        # Both entry slots come too early; the first of the nodes is told.
        heap = (((1, 1, 2, 2), (), ()), (1, 0, 0))
        self.refused("late", 1, heap, 0, ((), (0, 0), (0, 2)))
        self.refused("late", 2, heap, 0, ((), (0, 1), (0, 2)))
        # Node 4 is held by 1, 2 and 3: which slot is the last one depends on the limit.
        heap = (((1, 2), (3, 4), (4,), (4,), ()), (1, 0, 0, 0, 0))
        trees = {slot: ((), (0, 0), (0, 1), (1, 0), slot) for slot in [(1, 1), (2, 0), (3, 0)]}
        for limit, right in [(1, (3, 0)), (2, (3, 0)), (3, (2, 0)), (4, (2, 0)), (GREAT, (2, 0))]:
            for slot in trees:
                if slot == right:
                    self.check(check_tree(heap, 0, trees[slot], limit=limit), drop(heap, 0, limit=limit)[0])
                else:
                    self.refused("late", 4, heap, 0, trees[slot], [limit])

    def test_all_small_values(self):
        for heap in [random_heap(seed, most=3, width=2) for seed in range(60)] + [SHARED, TWICE]:
            n = len(heap[0])
            widest = max(len(row or ()) for row in heap[0])
            entries = [None, ()] + [(v, slot) for v in range(n) for slot in range(widest)]
            for node in droppable(heap):
                for value in itertools.product(entries, repeat=n):
                    for limit in (1, 2, 3):
                        self.agrees(heap, node, value, limit)

    def test_values_with_one_or_two_changes(self):
        for heap in [MIXED, RINGED] + [random_heap(seed, most=6) for seed in range(25)]:
            n = len(heap[0])
            for node in droppable(heap)[:1]:
                for limit in (1, 2, 3):
                    tree = release_tree(heap, node, limit=limit)
                    entries = [None, ()] + [(v, i) for v in plain_live(heap) for i in range(len(heap[0][v]))]
                    for v, entry in itertools.product(range(n), entries):
                        self.agrees(heap, node, changed(tree, (v, entry)), limit)
                        self.agrees(heap, node, changed(tree, (v, entry), ((v + 1) % n, None)), limit)

    def agrees(self, heap, node, value, limit):
        problem = first_problem(heap, node, value, limit)
        if problem is None:
            self.check(value, release_tree(heap, node, limit=limit))
            self.check(check_tree(heap, node, value, limit=limit), drop(heap, node, limit=limit)[0])
        else:
            self.refused(*problem, heap, node, value, [limit])


def first_problem(heap, node, tree, limit):
    """The problems 2 to 7 of point 34 in their order, for a value of the right shape."""
    slots = heap[0]
    outside = [number - (v == node) for v, number in enumerate(heap[1])]
    n = len(slots)
    count = plain_counts(heap)[node] - 1
    places = [(v, i) for v in plain_live(heap) for i in range(len(slots[v])) if slots[v][i] is not None]
    holding = {v: [(w, i) for w, i in places if slots[w][i] == v] for v in range(n)}
    inside = [v for v in range(n) if tree[v] is not None]
    pairs = [v for v in inside if tree[v] != ()]
    wrong_root = [v for v in range(n) if (tree[v] == ()) != (v == node)] if count == 0 else inside
    problems = [
        ("root", lambda v: v in wrong_root),
        ("slot", lambda v: v in pairs and tree[v] not in holding[v]),
        ("cycle", lambda v: v in pairs and not leads_to(tree, v, node, ())),
        ("held", lambda v: v in pairs and (outside[v] > 0 or any(tree[w] is None for w, _ in holding[v]))),
        ("missing", lambda v: slots[v] is not None and tree[v] is None and v != node and outside[v] == 0
            and all(tree[w] is not None for w, _ in holding[v])),
        ("late", lambda v: v in pairs and any(plain_slot_before(tree, tree[v], place, limit) for place in holding[v])),
    ]
    for reason, applies in problems:
        for v in range(n):
            if applies(v):
                return (reason, v)
    return None


def leads_to(tree, v, root, passed):
    if v == root:
        return True
    return bool(tree[v]) and v not in passed and leads_to(tree, tree[v][0], root, passed + (v,))


if __name__ == "__main__":
    unittest.main()
