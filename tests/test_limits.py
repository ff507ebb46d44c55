"""Points 35 to 38: what the limit changes in a log."""

import itertools
import unittest

from slotfall.errors import Mismatch, NoNode, NoReference, NotFreed
from slotfall.limits import all_logs, first_difference, limit_groups, limits_before
from tests.support import (APART, BINARY, EMPTY, HEAPS, HOLES, LONG_PATH, LOOP, MANY, NO_NODES, PATH, RING, STAR, TREE,
                           TWICE, WIDE_STAR, Model, StrictCase, droppable, random_heap)

SOME_HEAPS = HEAPS + [random_heap(seed) for seed in range(150)]
# Four different logs: for the limits 1, 2, 3, and from 4 on.
FOUR_LOGS = (((1,), (2, 3), (4,), (5, 6), (), (), ()), (1, 0, 0, 0, 0, 0, 0))


def plain_logs(heap, node):
    """The logs of the second machine for the limits from 1 to n."""
    return [tuple(Model(heap, limit).drop(node).log) for limit in range(1, len(heap[0]) + 1)]


class ErrorsOfDrop(StrictCase):
    def raises_as_drop(self, call, *more):
        for node in NO_NODES + [1, 3, 6]:
            self.fails(NoNode, {"node": node}, call, HOLES, node, *more)
            self.fails(NoNode, {"node": node}, call, EMPTY, node, *more)
        for node in (2, 4, 5):
            self.fails(NoReference, {"node": node}, call, HOLES, node, *more)
        self.fails(NoReference, {"node": 0}, call, APART, 0, *more)
        self.fails(NoNode, {"node": 0}, call, EMPTY, 0, *more)


class AllLogsTest(ErrorsOfDrop):
    def test_example(self):
        self.check(all_logs(TREE, 0), [(0, 2, 1, 3), (0, 1, 2, 3), (0, 1, 3, 2), (0, 1, 3, 2)])

    def test_edges(self):
        self.check(all_logs((((),), (1,)), 0), [(0,)])
        self.check(all_logs((((), None, None), (1, 0, 0)), 0), [(0,)] * 3)
        self.check(all_logs(HOLES, 0), [(0, 4, 2, 5), (0, 2, 4, 5)] + [(0, 2, 5, 4)] * 4)
        self.check(all_logs(heap=MANY, node=0), [()] * 4)
        self.check(all_logs(LOOP, 0), [(), ()])
        self.check(all_logs(LONG_PATH, 0), [tuple(range(40))] * 40)
        self.check(all_logs(WIDE_STAR, 0), [(0,) + tuple(range(39, 0, -1))] + [tuple(range(40))] * 39)

    def test_agrees_with_the_second_machine(self):
        for heap in SOME_HEAPS:
            for node in droppable(heap):
                self.check(all_logs(heap, node), plain_logs(heap, node))

    def test_errors(self):
        self.raises_as_drop(all_logs)


class LimitGroupsTest(ErrorsOfDrop):
    def test_example(self):
        self.check(limit_groups(TREE, 0), [(1,), (2,), (3, 4)])

    def test_edges(self):
        self.check(limit_groups((((),), (1,)), 0), [(1,)])
        self.check(limit_groups(heap=MANY, node=0), [(1, 2, 3, 4)])
        self.check(limit_groups(LONG_PATH, 0), [tuple(range(1, 41))])
        self.check(limit_groups(WIDE_STAR, 0), [(1,), tuple(range(2, 41))])
        self.check(limit_groups(HOLES, 0), [(1,), (2,), (3, 4, 5, 6)])
        self.check(limit_groups(BINARY, 0), [(1,), (2,), (3, 4, 5, 6, 7)])
        self.check(limit_groups(FOUR_LOGS, 0), [(1,), (2,), (3,), (4, 5, 6, 7)])

    def test_equal_logs_with_others_between(self):
        # Node 1 of depth 1 has two children: they are far from it with the limits 1 and 2 only.
        forked = (((1,), (2, 3), (), ()), (1, 0, 0, 0))
        self.check(limit_groups(forked, 0), [(1, 2), (3, 4)])
        # With two children at depth 2 instead they are far with the limits 1 and 3, and near with 2.
        forked = (((1,), (2,), (3, 4), (), ()), (1, 0, 0, 0, 0))
        self.check(limit_groups(forked, 0), [(1, 3), (2, 4, 5)])
        path = tuple((v + 1,) for v in range(12)) + ((13, 14), (), ())
        self.check(limit_groups((path, (1,) + (0,) * 14), 0), [(1, 13), (2, 3, 4, 5, 6, 7, 8, 9, 10, 11, 12, 14, 15)])
        path = tuple((v + 1,) for v in range(11)) + ((12, 13), (), ())
        self.check(limit_groups((path, (1,) + (0,) * 13), 0), [(1, 2, 3, 4, 6, 12), (5, 7, 8, 9, 10, 11, 13, 14)])

    def test_every_limit_once(self):
        for heap in SOME_HEAPS + [FOUR_LOGS]:
            for node in droppable(heap):
                logs, groups = plain_logs(heap, node), limit_groups(heap, node)
                self.assertEqual(sorted(limit for group in groups for limit in group), list(range(1, len(logs) + 1)))
                for group in groups:
                    self.check(group, tuple(sorted(group)))
                self.check(groups, sorted(groups))
                for one, other in itertools.product(range(len(logs)), repeat=2):
                    together = any(one + 1 in group and other + 1 in group for group in groups)
                    self.assertEqual(together, logs[one] == logs[other])

    def test_errors(self):
        self.raises_as_drop(limit_groups)


class LimitsBeforeTest(ErrorsOfDrop):
    def test_example(self):
        found = [limits_before(TREE, 0, first, second) for first, second in [(1, 2), (3, 2), (2, 2)]]
        self.check(found, [[2, 3, 4], [3, 4], []])

    def test_by_the_logs(self):
        for heap in SOME_HEAPS + [FOUR_LOGS]:
            for node in droppable(heap):
                logs = plain_logs(heap, node)
                for first, second in itertools.product(sorted(logs[0]), repeat=2):
                    expected = [limit for limit, log in enumerate(logs, 1) if log.index(first) < log.index(second)]
                    self.check(limits_before(heap=heap, node=node, first=first, second=second), expected)

    def test_not_freed(self):
        # Dropping node 0 destroys 0, 1, 3; node 2 has an outside reference, 4 is free.
        heap = (((1, 2), (3,), (), (), None), (1, 0, 1, 0, 0))
        for value in NO_NODES + [2, 4, 5]:
            for other in (0, 1, 2, 4, None, True, [0]):
                self.fails(NotFreed, {"node": value}, limits_before, heap, 0, value, other)
            for first in (0, 1, 3):
                self.fails(NotFreed, {"node": value}, limits_before, heap, 0, first, value)
        for value in NO_NODES + [0, 1, 2, 3]:
            self.fails(NotFreed, {"node": value}, limits_before, MANY, 0, value, value)
            self.fails(NotFreed, {"node": value}, limits_before, RING, 0, value, 0)

    def test_errors(self):
        for first, second in [(0, 0), (0, None), ("first", 0), (True, [1])]:
            self.raises_as_drop(limits_before, first, second)


class FirstDifferenceTest(ErrorsOfDrop):
    def test_example(self):
        other = (((2, 1), (3,), (), ()), (1, 0, 0, 0))
        self.check([first_difference(TREE, other, 0), first_difference(TREE, TREE, 0)], [(1, 1), None])

    def test_equal_logs(self):
        for heap in HEAPS:
            for node in droppable(heap):
                self.check(first_difference(heap, heap, node), None)
        self.check(first_difference((((1, 1), ()), (1, 0)), (((None, 1, None), ()), (1, 0)), 0), None)
        self.check(first_difference(one=MANY, other=(((1, 2), (3,), (), ()), (2, 5, 1, 0)), node=0), None)

    def test_heaps_that_differ_in_a_node_that_stays(self):
        one = (((1, 2), (), (3,), (), ()), (1, 0, 1, 0, 1))
        other = (((1, 2), (), (), (3, None), None), (1, 0, 1, 0, 0))
        self.check(first_difference(one, other, 0), None)

    def test_the_least_limit(self):
        # Two children of a node at depth d are far from it with the limits that divide d + 1, and near with the others.
        one = (((1,), (2,), (3, 4), (), ()), (1, 0, 0, 0, 0))
        other = (((1,), (2,), (3,), (4,), ()), (1, 0, 0, 0, 0))
        self.check(first_difference(one, other, 0), (1, 3))
        one = (((1,), (2,), (4, 3), (), ()), (1, 0, 0, 0, 0))
        self.check(first_difference(one, other, 0), (2, 3))
        path = tuple((v + 1,) for v in range(12))
        one = (path + ((14, 13), (), ()), (1,) + (0,) * 14)
        other = (path + ((13,), (14,), ()), (1,) + (0,) * 14)
        self.check(first_difference(one, other, 0), (2, 13))
        path = tuple((v + 1,) for v in range(11))
        one = (path + ((13, 12), (), ()), (1,) + (0,) * 13)
        other = (path + ((12,), (13,), ()), (1,) + (0,) * 13)
        self.check(first_difference(one, other, 0), (5, 12))

    def test_star_and_path(self):
        self.check(first_difference((((2, 1), (), ()), (1, 0, 0)), (((1,), (2,), ()), (1, 0, 0)), 0), (2, 1))
        self.check(first_difference((((1, 2), (), ()), (1, 0, 0)), (((1,), (2,), ()), (1, 0, 0)), 0), (1, 1))

    def test_one_log_is_the_beginning_of_the_other(self):
        longer = (((1,), (2,), ()), (1, 0, 0))
        for other, position in [((((1,), (2,), ()), (1, 0, 1)), 2), ((((1,), (2,), ()), (1, 1, 0)), 1),
                                ((((1,), (2,), ()), (2, 0, 0)), 0), ((((1,), (), None), (1, 0, 0)), 2)]:
            self.check(first_difference(longer, other, 0), (1, position))
            self.check(first_difference(other, longer, 0), (1, position))

    def test_by_the_logs(self):
        heaps = [random_heap(seed, most=5, width=3) for seed in range(120)]
        for one, other in itertools.product(heaps, repeat=2):
            if len(one[0]) == len(other[0]):
                for node in [v for v in droppable(one) if v in droppable(other)]:
                    self.check(first_difference(one, other, node), plain_difference(one, other, node))

    def test_mismatch_comes_first(self):
        for one, other in [(TREE, BINARY), (BINARY, TREE), (EMPTY, TREE), (TREE, EMPTY), (TWICE, STAR), (PATH, HOLES)]:
            for node in NO_NODES + [0, 1, 3]:
                self.fails(Mismatch, {"reason": "count"}, first_difference, one, other, node)

    def test_errors(self):
        six = (((),) * 6, (1,) * 6)
        for node in NO_NODES + [1, 3, 6]:
            self.fails(NoNode, {"node": node}, first_difference, HOLES, HOLES, node)
            self.fails(NoNode, {"node": node}, first_difference, EMPTY, EMPTY, node)
        for node in (1, 3):
            self.fails(NoNode, {"node": node}, first_difference, HOLES, six, node)
            self.fails(NoNode, {"node": node}, first_difference, six, HOLES, node)
        for node in (2, 4, 5):
            self.fails(NoReference, {"node": node}, first_difference, HOLES, six, node)
            self.fails(NoReference, {"node": node}, first_difference, six, HOLES, node)
        # For the first heap the node has no reference, in the second one it is free, and the other way round.
        held, free = (((1,), ()), (1, 0)), (((), None), (1, 0))
        self.fails(NoReference, {"node": 1}, first_difference, held, free, 1)
        self.fails(NoNode, {"node": 1}, first_difference, free, held, 1)


def plain_difference(one, other, node):
    for limit, (log, second) in enumerate(zip(plain_logs(one, node), plain_logs(other, node)), 1):
        for position in range(max(len(log), len(second))):
            if log[position:position + 1] != second[position:position + 1]:
                return (limit, position)
    return None


if __name__ == "__main__":
    unittest.main()
