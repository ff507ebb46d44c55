"""Points 50 to 54: limits that determine trees, twin trees, and the tree with given logs."""

import functools
import itertools
import math
import random
import unittest

from slotfall.errors import InvalidLogs
from slotfall.logsets import deciding_limits, determines, needed_bound, tree_from_logs, twin_trees
from slotfall.trees import is_tree
from tests.plain_trees import (BACKWARDS_40, PATH_40, STAR_40, TREES, all_shapes, all_trees, numbered, plain_log,
                               random_tree)
from tests.support import StrictCase, lists_of

GREAT = 10 ** 30
UPWARDS = tuple(range(40))
DOWNWARDS = tuple(range(39, -1, -1))


@functools.lru_cache(maxsize=None)
def shape_logs(n, limit):
    """The log of each shape, its nodes numbered in preorder."""
    return [plain_log(numbered(shape, range(n)), limit) for shape in all_shapes(n)]


def tell_apart(limits, n):
    """True if no two trees of n nodes have the same logs; it looks at all trees with the log 0, 1, .. for one limit."""
    first = shape_logs(n, limits[0])
    seen = set()
    for at, log in enumerate(first):
        places = {v: place for place, v in enumerate(log)}
        seen.add(tuple(tuple(places[v] for v in shape_logs(n, limit)[at]) for limit in limits[1:]))
    return len(seen) == len(first)


def common_multiple(limits):
    return math.lcm(*limits)


def limit_lists(most):
    """All sets of limits up to a number, as lists in their order."""
    return [list(limits) for size in range(1, most + 1) for limits in itertools.combinations(range(1, most + 1), size)]


class DeterminesTest(StrictCase):
    def test_example(self):
        found = [determines([1, 2], size=3), determines([1, 2], size=4), determines([2, 3], size=3),
                 determines((5,), size=2)]
        self.check(found, [True, False, False, True])

    def test_by_all_trees(self):
        for n in range(1, 8):
            for limits in limit_lists(min(n, 6)):
                self.check(determines(limits, size=n), tell_apart(limits, n))

    def test_sizes_one_and_two(self):
        for limits in [[1], [2], (GREAT,), [3, 3], (2, 4), [1, 2, 3]]:
            self.check([determines(limits, size=1), determines(limits, size=2)], [True, True])

    def test_the_least_common_multiple(self):
        for limits in [[1], [1, 2], [1, 3, 2], [1, 4, 6], [1, 5, 7], [1, 38], [1, 39], [1, 6, 13], [1, 2, 3, 4, 5]]:
            multiple = common_multiple(limits)
            for size in range(3, 41):
                for order in (limits, limits[::-1], tuple(limits), limits + limits, tuple(limits[::-1] + [1])):
                    self.check(determines(limits=order, size=size), multiple >= size - 1)
                without = [limit for limit in limits if limit > 1] or [2]
                self.check(determines(without, size=size), False)

    def test_edges(self):
        self.check([determines([1, 38], size=39), determines([1, 38], size=40)], [True, False])
        self.check([determines([1, 39], size=40), determines([39], size=40)], [True, False])
        for size in (3, 4, 40):
            self.check(determines([GREAT, 1], size=size), True)
            self.check(determines((1, GREAT - 1, GREAT), size=size), True)
            self.check(determines([GREAT], size=size), False)
            self.check(determines([GREAT, GREAT - 1, 2], size=size), False)
            self.check(determines([GREAT - limit for limit in range(19)] + [1], size=size), True)
            self.check(determines([1] * 20, size=size), False)
            self.check(determines([2] * 19 + [1], size=size), size == 3)


class DecidingLimitsTest(StrictCase):
    def test_example(self):
        found = [deciding_limits([1, 3, 2], size=7), deciding_limits([1, 3, 2], size=8)]
        self.check(found, [(2, 3, 2, 3, 2), (2, 3, 2, 3, 2, None)])

    def test_edges(self):
        for limits in ([1], (1, 2), [5], [GREAT]):
            self.check([deciding_limits(limits, size=1), deciding_limits(limits=limits, size=2)], [(), ()])
        self.check(deciding_limits([1], size=5), (None,) * 3)
        self.check(deciding_limits([2], size=6), (2, None, 2, None))
        self.check(deciding_limits((3, 2), size=8), (2, 3, 2, 3, 2, None))
        self.check(deciding_limits([39, 1], size=40), (39,) * 38)
        self.check(deciding_limits([38, 1], size=40), (38,) * 37 + (None,))
        self.check(deciding_limits([GREAT, 1, GREAT - 1], size=40), (GREAT - 1,) * 38)

    def test_by_the_definition(self):
        for limits in limit_lists(5) + [[6, 4], [7, 7, 1, 7], [GREAT, 12]]:
            for size in (1, 2, 3, 9, 40):
                expected = []
                for depth in range(1, size - 1):
                    expected.append(next((limit for limit in sorted(limits) if depth % limit), None))
                for order in (limits, limits[::-1], tuple(limits), limits * 2):
                    self.check(deciding_limits(order, size=size), tuple(expected))
                if size > 2:
                    self.check(determines(limits, size=size), 1 in limits and None not in expected)


class NeededBoundTest(StrictCase):
    def test_example(self):
        self.check([needed_bound(2), needed_bound(3), needed_bound(7), needed_bound(8)], [1, 2, 3, 4])

    def test_every_size(self):
        bounds = [1, 1, 2] + [3] * 4 + [4] * 6 + [5] * 27
        self.check([needed_bound(size=size) for size in range(1, 41)], bounds)

    def test_against_determines(self):
        for size in range(1, 41):
            bound = needed_bound(size)
            self.check(determines(list(range(1, bound + 1)), size=size), True)
            if bound > 1:
                self.check(determines(list(range(1, bound)), size=size), False)
                for limits in limit_lists(bound - 1):
                    self.check(determines(limits, size=size), False)


class TwinTreesTest(StrictCase):
    def test_example(self):
        self.twins([1, 2], 4)

    def twins(self, limits, size):
        found = twin_trees(limits, size=size)
        self.assertIs(type(found), tuple)
        one, other = found
        self.check([is_tree(one), is_tree(other), len(one), len(other)], [True, True, size, size])
        self.assertNotEqual(one, other)
        for limit in limits:
            self.check(plain_log(one, limit), plain_log(other, limit))
        self.check(twin_trees(limits=tuple(limits), size=size), found)
        self.check(twin_trees(list(limits), size=size), found)

    def test_none_where_the_limits_determine(self):
        for size in range(1, 41):
            for limits in limit_lists(5) + [[1, 38], [1, 39], [39], [GREAT], [GREAT, 1], [7, 1, 7, 5], [6, 1, 1, 6]]:
                known = size < 3 or 1 in limits and common_multiple(limits) >= size - 1
                if known:
                    self.check(twin_trees(limits, size=size), None)
                    self.check(twin_trees(tuple(limits), size=size), None)
                else:
                    self.twins(limits, size)

    def test_just_beyond_the_least_common_multiple(self):
        for limits in [[1], [1, 2], [1, 3, 2], [1, 4, 6], [1, 5, 7], [38, 1], [1, 2, 3, 4], [1, 9, 4], [36, 1, 18]]:
            multiple = common_multiple(limits)
            self.check(twin_trees(limits, size=multiple + 1), None)
            self.twins(limits, multiple + 2)
            self.twins(limits, min(40, multiple + 3))
            self.twins(limits, 40)

    def test_without_limit_one(self):
        for size in (3, 4, 5, 40):
            for limits in ([2], [2, 3], [GREAT], [GREAT - 1, GREAT], [5, 2, 3, 7], [2] * 20, [40, 39, 38]):
                self.twins(limits, size)


class TreeFromLogsTest(StrictCase):
    def test_example(self):
        found = [tree_from_logs([(1, (0, 2, 1, 3)), (3, (0, 1, 3, 2))]), tree_from_logs([(1, (0, 1, 2)), (2, (1, 0, 2))])]
        self.check(found, [("tree", ((1, 2), (3,), (), ())), ("none", 2, 0)])
        self.refuses(InvalidLogs, "limits", -1, tree_from_logs, [(2, (0, 1, 2))])

    def comes_back(self, tree, limits):
        logs = [(limit, plain_log(tree, limit)) for limit in limits]
        for value in (logs, tuple(logs), logs[::-1]):
            self.check(tree_from_logs(logs=value), ("tree", tree))

    def test_every_small_tree(self):
        for n in range(1, 5):
            for tree in all_trees(n):
                for limits in [[1, 2, 3], [3, 1], [GREAT, 1], [1, 7], [4, 1, 2]]:
                    self.comes_back(tree, limits)
        for limits in [[1, 2, 3], [4, 1], [1, 6, 2], [1, GREAT], [5, 4, 3, 2, 1]]:
            for shape in all_shapes(6):
                self.comes_back(numbered(shape, [3, 5, 0, 2, 4, 1]), limits + [5] * (5 not in limits))

    def test_forty_nodes(self):
        for tree in TREES:
            for limits in [[1, 2, 3, 4, 5], [1, 39], [40, 1], [1, GREAT], [7, 1, 8], list(range(1, 21))]:
                self.comes_back(tree, limits)

    def test_sizes_one_and_two(self):
        for limits in [[1], [2], [GREAT, 3], [5, 1, 2]]:
            self.comes_back(((),), limits)
            self.comes_back(((1,), ()), limits)
            self.comes_back(((), (0,)), limits)
        self.check(tree_from_logs([(3, (0, 1)), (2, (1, 0))]), ("none", 2, 0))
        self.check(tree_from_logs([(3, (1, 0)), (2, (1, 0)), (7, (0, 1)), (4, (0, 1))]), ("none", 7, 0))
        # The log for limit 1 comes first wherever it stands.
        self.check(tree_from_logs([(3, (0, 1)), (1, (1, 0))]), ("none", 3, 0))
        self.check(tree_from_logs([(3, (0, 1)), (2, (0, 1)), (1, (1, 0))]), ("none", 3, 0))

    def test_logs_of_no_tree(self):
        # Node 2 must hang beside 1, and 3 below 2; then nothing comes between 2 and 3 with limit 3.
        self.check(tree_from_logs([(1, (0, 1, 2, 3)), (3, (0, 2, 1, 3))]), ("none", 3, 2))
        self.check(tree_from_logs([(3, (0, 2, 1, 3)), (1, (0, 1, 2, 3))]), ("none", 3, 2))
        self.check(tree_from_logs([(1, (0, 1, 2, 3)), (3, (0, 2, 3, 1))]), ("tree", ((2, 1), (), (3,), ())))
        self.check(tree_from_logs([(1, UPWARDS), (39, DOWNWARDS)]), ("none", 39, 0))
        self.check(tree_from_logs([(1, DOWNWARDS), (39, UPWARDS)]), ("none", 39, 0))
        self.check(tree_from_logs([(1, UPWARDS), (39, UPWARDS), (2, (0,) + DOWNWARDS[:39])]), ("none", 39, 1))
        self.check(tree_from_logs([(1, UPWARDS), (39, (0,) + DOWNWARDS[:39])]), ("tree", (DOWNWARDS[:39],) + ((),) * 39))

    def test_all_pairs_of_small_logs(self):
        for n, limits in [(2, [1, 2]), (2, [3, 2]), (3, [1, 2]), (3, [3, 1]), (4, [1, 3]), (4, [5, 1])]:
            trees = {tuple(plain_log(tree, limit) for limit in limits): tree for tree in all_trees(n)}
            self.assertEqual(len(trees), len(all_trees(n)))
            for logs in itertools.product(itertools.permutations(range(n)), repeat=2):
                value = list(zip(limits, logs))
                self.check(tree_from_logs(value), plain_result(value))
                self.assertEqual(tree_from_logs(value)[0], "tree" if logs in trees else "none")
                if logs in trees:
                    self.check(tree_from_logs(value), ("tree", trees[logs]))

    def test_logs_with_changes(self):
        for seed in range(150):
            tree = random_tree(seed, 12, 3)
            chance = random.Random(seed)
            logs = []
            for limit in chance.choice([[1, 2, 3, 4], [12, 1], [1, 5, 3], [4, 3, 1], [GREAT, 2, 1]]):
                log = list(plain_log(tree, limit))
                if chance.random() < 0.5:
                    one, other = chance.randrange(len(log)), chance.randrange(len(log))
                    log[one], log[other] = log[other], log[one]
                logs.append((limit, tuple(log)))
            self.check(tree_from_logs(logs), plain_result(logs))

    def refused(self, reason, index, logs):
        self.refuses(InvalidLogs, reason, index, tree_from_logs, logs)

    def test_shape(self):
        for value in [None, True, False, 0, 1, 10 ** 99, "", "logs", (), [], [(1, (0,))] * 21, ((1, (0,)),) * 21,
                      [None] * 21]:
            self.refused("shape", -1, value)

    def test_entry(self):
        good = (1, (0, 1, 2))
        bad = [None, True, 1, -1, "", "ab", (), [], (1,), (1, (0, 1, 2), 0), [1, (0, 1, 2)], [1, [0, 1, 2]], ((0, 1, 2), 2),
               (2, [0, 1, 2]), (2, None), (2, "012"), (2, 0), (2, ()), (2, []), (2, (1, 2, 3)), (2, (0, 1, 3)),
               (2, (0, 1, 1)), (2, (0, 0, 1)), (2, (0, 2)), (2, (1,)), (2, (-1, 0, 1)), (2, (0, True, 2)), (2, (False, 1, 2)),
               (2, (0, "1", 2)), (2, (0, None, 2)), (2, (0, (1,), 2)), (2, (0, [1], 2)), (2, tuple(range(41))),
               (2, (0,) * 40), (2, (0, 1, 10 ** 99))]
        bad += [(limit, (0, 1, 2)) for limit in (0, -1, True, False, GREAT + 1, 10 ** 99, "2", "", None, (2,), [2], ())]
        for entry in bad:
            self.refused("entry", 0, [entry])
            self.refused("entry", 0, (entry, entry, good))
            self.refused("entry", 1, [good, entry])
            self.refused("entry", 2, (good, (2, (2, 1, 0)), entry, (2, (0,)), (3, (0, 1, 2))))
            self.refused("entry", 19, [good] + [(limit, (0, 1, 2)) for limit in range(2, 20)] + [entry])
        self.refused("entry", 0, lists_of([good, (2, (0, 1, 2))]))

    def test_limit_and_size(self):
        self.refused("limit", 1, [(1, (0, 1, 2)), (1, (0, 1, 2))])
        self.refused("limit", 2, [(2, (0, 1, 2)), (1, (0, 1, 2)), (2, (0, 1, 2)), (1, (0, 1, 2))])
        self.refused("limit", 19, [(limit, (0,)) for limit in range(1, 20)] + [(7, (0,))])
        self.refused("size", 1, [(1, (0, 1, 2)), (2, (0, 1))])
        self.refused("size", 1, ((1, (0, 1)), (2, (0, 1, 2))))
        self.refused("size", 2, [(1, (0, 1)), (2, (1, 0)), (3, (0,))])
        self.refused("size", 1, [(1, UPWARDS), (2, UPWARDS[:39])])
        # An entry with both, and two entries with one each.
        self.refused("limit", 1, [(1, (0, 1, 2)), (1, (0, 1))])
        self.refused("limit", 1, [(1, (0, 1, 2)), (1, (0, 1, 2)), (2, (0,)), None])
        self.refused("size", 1, [(1, (0, 1, 2)), (2, (0,)), (1, (0, 1, 2)), None])
        self.refused("entry", 1, [(1, (0, 1, 2)), (1, (0, 2)), (1, (0, 1, 2))])
        # Before limits that do not determine the trees.
        self.refused("limit", 1, [(2, (0, 1, 2)), (2, (0, 1, 2))])
        self.refused("size", 1, [(2, (0, 1, 2)), (3, (0, 1))])

    def test_limits(self):
        for limits in [[2], [2, 3], [GREAT], [3, 5, 7]]:
            for n in (3, 4, 40):
                self.refused("limits", -1, [(limit, tuple(range(n))) for limit in limits])
        self.refused("limits", -1, [(1, (0, 1, 2))])
        self.refused("limits", -1, ((1, (0, 1, 2, 3)), (2, (0, 1, 2, 3))))
        self.refused("limits", -1, [(1, UPWARDS), (38, UPWARDS)])
        self.check(tree_from_logs([(1, UPWARDS), (39, UPWARDS)]), ("tree", PATH_40))
        self.check(tree_from_logs([(40, UPWARDS), (1, (0,) + DOWNWARDS[:39])]), ("tree", STAR_40))
        self.check(tree_from_logs(((GREAT, DOWNWARDS), (1, DOWNWARDS))), ("tree", BACKWARDS_40))


def plain_result(logs):
    """Point 54, sentence by sentence, for logs without a problem."""
    main = dict(logs).get(1, logs[0][1])
    parent = {main[0]: None}
    for k in range(1, len(main)):
        node, path = main[k], [main[k - 1]]
        while parent[path[0]] is not None:
            path.insert(0, parent[path[0]])
        later = [c for c in path[1:] if any(log.index(node) < log.index(c) for _, log in logs)]
        parent[node] = parent[later[0]] if later else main[k - 1]
    tree = tuple(tuple(v for v in reversed(main) if parent[v] == w) for w in range(len(main)))
    for limit, log in logs:
        told = plain_log(tree, limit)
        if told != log:
            return ("none", limit, next(at for at in range(len(log)) if told[at] != log[at]))
    return ("tree", tree)


if __name__ == "__main__":
    unittest.main()
