"""Points 55 and 56: forced trees, and the swaps that give a tree a wanted log."""

import random
import unittest

from slotfall.trees import is_tree, log_of
from slotfall.wanted import arrangement, forced_tree
from tests.plain_trees import EXAMPLE, STAR_40, all_shapes, all_trees, numbered, plain_log
from tests.rearranged import (GREAT, SIXES, TREES_40, bar_case, distances, fewest, great_cases, limits_for, logs_of_all,
                              orders, plain_forced, possible_swaps, small_cases, swapped)
from tests.support import StrictCase

TREE = ((1, 2), (3,), (), ())


class ForcedTreeTest(StrictCase):
    def test_example(self):
        found = [forced_tree(TREE, (0, 2, 1, 3), limit=4), forced_tree(TREE, (0, 2, 1, 3), limit=1)]
        self.check(found, [((2, 1), (3,), (), ()), ((1, 2), (3,), (), ())])

    def forced(self, tree, wanted, limit):
        found = forced_tree(tree=tree, wanted=wanted, limit=limit)
        self.check(is_tree(found), True)
        self.check([sorted(row) for row in found], [sorted(row) for row in tree])
        log = plain_log(found, limit)
        for row in found:
            self.check([v for v in log if v in row], [v for v in wanted if v in row])
        return found

    def test_small_trees(self):
        for tree, wanted, limit in small_cases():
            self.check(self.forced(tree, wanted, limit), plain_forced(tree, wanted, limit))

    def test_the_log_of_the_tree_itself(self):
        for tree in [tree for n in range(1, 5) for tree in all_trees(n)] + TREES_40 + [SIXES, EXAMPLE]:
            for limit in limits_for(len(tree)) + [5, 39]:
                self.check(forced_tree(tree, plain_log(tree, limit), limit=limit), tree)

    def test_forty_nodes(self):
        for tree, wanted, limit in great_cases():
            self.check(self.forced(tree, wanted, limit), plain_forced(tree, wanted, limit))

    def test_near_and_far_children(self):
        # The children of the root, of 1 and of 3 are at the depths 1, 2 and 3.
        tree = ((1, 2), (3, 4), (), (5, 6), (), (), ())
        downwards = (6, 5, 4, 3, 2, 1, 0)
        for limit, rows in [(1, ((1, 2), (3, 4), (5, 6))), (2, ((2, 1), (3, 4), (6, 5))), (3, ((2, 1), (4, 3), (5, 6))),
                            (4, ((2, 1), (4, 3), (6, 5))), (GREAT, ((2, 1), (4, 3), (6, 5)))]:
            self.check(forced_tree(tree, downwards, limit=limit), (rows[0], rows[1], (), rows[2], (), (), ()))

    def test_star(self):
        for wanted in [tuple(range(40)), tuple(range(39, -1, -1))]:
            children = tuple(v for v in wanted if v)
            self.check(forced_tree(STAR_40, wanted, limit=2), (children,) + ((),) * 39)
            self.check(forced_tree(STAR_40, wanted, limit=1), (children[::-1],) + ((),) * 39)


class ArrangementTest(StrictCase):
    def test_example(self):
        found = [arrangement(TREE, (0, 2, 1, 3), limit=4), arrangement(TREE, (0, 3, 1, 2), limit=4)]
        self.check(found, [("swaps", ((0, 0, 1),)), ("bar", 3, 1)])

    def swaps(self, tree, wanted, limit):
        """Swaps that lead to the wanted log, each of them one of the tree as it is by then."""
        kind, swaps = arrangement(tree, wanted, limit=limit)
        self.check(kind, "swaps")
        self.assertIs(type(swaps), tuple)
        for swap in swaps:
            self.assertIn(swap, possible_swaps(tree))
            self.check([type(swap)] + [type(entry) for entry in swap], [tuple, int, int, int])
            tree = swapped(tree, swap)
        self.check(plain_log(tree, limit), wanted)
        return swaps

    def bar(self, tree, wanted, limit):
        found = arrangement(tree, wanted, limit=limit)
        self.assertEqual((type(found), len(found), found[0]), (tuple, 3, "bar"))
        for node in found[1:]:
            self.assertTrue(type(node) is int and 0 <= node < len(tree))
        self.assertLess(wanted.index(found[1]), wanted.index(found[2]))
        case = bar_case(tree, wanted, found[1], found[2], limit)
        self.assertIn(case, (1, 2, 3))
        return case

    def every_wanted_log(self, tree, limits):
        cases = set()
        far = distances(tree)
        for limit in limits:
            logs = logs_of_all(tree, limit)
            self.assertEqual(len(logs), len(far))
            for wanted in orders(len(tree)):
                if wanted in logs:
                    self.assertEqual(len(self.swaps(tree, wanted, limit)), far[logs[wanted]])
                else:
                    cases.add((limit, self.bar(tree, wanted, limit)))
        return cases

    def test_every_small_tree(self):
        for n in range(1, 5):
            for tree in all_trees(n):
                self.every_wanted_log(tree, limits_for(n))

    def test_every_shape(self):
        for shape in all_shapes(5):
            self.every_wanted_log(numbered(shape, [1, 4, 0, 2, 3]), limits_for(5))
        for shape in all_shapes(6)[::4]:
            self.every_wanted_log(numbered(shape, [3, 5, 0, 2, 4, 1]), [2, 3])

    def test_each_case_of_a_bar(self):
        # With limit 2, nodes 1 and 2 are near to the root, and 3 and 4 are far from it.
        tree = ((1, 2), (3,), (4,), (), ())
        found = self.every_wanted_log(tree, [2])
        self.assertEqual(found, {(2, 1), (2, 2), (2, 3)})
        self.check(arrangement(((1,), ()), (1, 0), limit=1), ("bar", 1, 0))
        self.check(bar_case(((1,), ()), (1, 0), 1, 0, 1), 1)
        for wanted, limit, bar, case in [((3, 0, 1, 2, 4), 2, (3, 0), 1), ((0, 1, 3, 2, 4), 2, (3, 2), 2),
                                         ((0, 1, 2, 3, 4), 2, (3, 4), 3), ((0, 1, 2, 4, 3), GREAT, (2, 3), 3),
                                         ((0, 2, 1, 3, 4), 1, (1, 4), 3)]:
            self.check(arrangement(tree, wanted, limit=limit), ("bar",) + bar)
            self.check(bar_case(tree, wanted, *bar, limit), case)

    def test_no_swaps(self):
        for tree in [tree for n in range(1, 5) for tree in all_trees(n)] + TREES_40 + [SIXES, EXAMPLE]:
            for limit in limits_for(len(tree)) + [5, 39]:
                self.check(arrangement(tree=tree, wanted=plain_log(tree, limit), limit=limit), ("swaps", ()))

    def test_forty_nodes(self):
        kinds = set()
        for tree, wanted, limit in great_cases():
            forced = plain_forced(tree, wanted, limit)
            if plain_log(forced, limit) == wanted:
                kinds.add("swaps")
                self.assertEqual(len(self.swaps(tree, wanted, limit)), fewest(tree, forced))
            else:
                kinds.add(self.bar(tree, wanted, limit))
        self.assertEqual(kinds, {"swaps", 1, 2, 3})

    def test_star(self):
        for seed in range(20):
            children = random.Random(seed).sample(range(1, 40), 39)
            for limit, row in [(1, children[::-1]), (2, children), (GREAT, children)]:
                wanted = (0,) + tuple(children)
                self.assertEqual(len(self.swaps(STAR_40, wanted, limit)), fewest(STAR_40, (tuple(row),) + ((),) * 39))
        self.assertEqual(len(self.swaps(STAR_40, (0,) + tuple(range(39, 0, -1)), 2)), 19)
        self.assertEqual(len(self.swaps(STAR_40, (0,) + tuple(range(2, 40)) + (1,), 2)), 38)
        self.check(arrangement(STAR_40, (1, 0) + tuple(range(2, 40)), limit=2), ("bar", 1, 0))

    def test_agrees_with_log_of(self):
        for tree, wanted, limit in small_cases():
            found = arrangement(tree, wanted, limit=limit)
            if found[0] == "swaps":
                self.check(log_of(swapped(tree, *found[1]), limit=limit), wanted)


if __name__ == "__main__":
    unittest.main()
