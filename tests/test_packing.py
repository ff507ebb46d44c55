"""Point 58: rearrangements with the least peak."""

import math
import unittest

from slotfall.machine import drop
from slotfall.packing import least_peak
from slotfall.trees import is_tree
from tests.plain_trees import (BACKWARDS_40, COMB_40, EXAMPLE, PATH_40, STAR_40, all_shapes, all_trees, numbered,
                               plain_heap, plain_root, random_tree)
from tests.rearranged import BUSHY_40, GREAT, SIXES, TREES_40, entries, plain_peak, rearrangements
from tests.release_trees import plain_depth
from tests.support import StrictCase

EXAMPLE_58 = ((1, 2), (3, 4, 5), (), (), (), ())


def few_rearrangements(most, count):
    """Random trees of up to 11 nodes that have few rearrangements, but more than one."""
    found = []
    seed = 0
    while len(found) < count:
        tree = random_tree(seed, 11, 6)
        if 1 < math.prod(math.factorial(len(row)) for row in tree) <= most:
            found.append(tree)
        seed += 1
    return found


class LeastPeakTest(StrictCase):
    def test_example(self):
        self.check(least_peak(EXAMPLE_58, limit=1)[0], 3)

    def peak(self, tree, limit):
        """The peak, after a look at the rearrangement that goes with it."""
        found = least_peak(tree=tree, limit=limit)
        self.assertEqual((type(found), len(found)), (tuple, 2))
        peak, arranged = found
        self.check(is_tree(arranged), True)
        self.check([sorted(row) for row in arranged], [sorted(row) for row in tree])
        self.check(peak, plain_peak(arranged, limit))
        self.check(peak, drop(plain_heap(arranged), plain_root(arranged), limit=limit)[1])
        return peak

    def against_all(self, tree, limits):
        for limit in limits:
            self.check(self.peak(tree, limit), min(plain_peak(other, limit) for other in rearrangements(tree)))

    def test_every_small_tree(self):
        for n in range(1, 5):
            for tree in all_trees(n):
                self.against_all(tree, [1, 2, 3, n, GREAT])

    def test_every_shape(self):
        for shape in all_shapes(6):
            self.against_all(numbered(shape, [3, 5, 0, 2, 4, 1]), [1, 2, 3, 6])
        for shape in all_shapes(7):
            if max(shape) < 5:
                self.against_all(numbered(shape, [2, 0, 6, 4, 1, 3, 5]), [1, 2, 3])

    def test_all_rearrangements_of_random_trees(self):
        for tree in few_rearrangements(48, 60):
            self.against_all(tree, [1, 2, 3, 4])

    def test_the_orders_matter(self):
        # Below 1 hang three nodes, below 2 one: with limit 1 the trees of 1 must stay at the bottom of the shelf.
        tree = ((2, 1), (3, 4, 5), (6,), (), (), (), ())
        self.assertEqual([plain_peak(tree, 1), plain_peak(((1, 2),) + tree[1:], 1), self.peak(tree, 1)], [4, 3, 3])
        # With limit 2 only the nodes of even depths are put on the shelf; the order of their parents decides.
        tree = ((1, 2), (3,), (4,), (), (5,), (6, 7, 8), (), (), ())
        self.assertEqual([plain_peak(tree, 2), plain_peak(((2, 1),) + tree[1:], 2), self.peak(tree, 2)], [4, 3, 3])

    def test_no_depth_reaches_the_limit(self):
        for tree in [((),), ((1,), ()), EXAMPLE, EXAMPLE_58, SIXES] + TREES_40:
            deepest = max(plain_depth(entries(tree), v) for v in range(len(tree)))
            for limit in (deepest + 1, deepest + 2, 40, GREAT):
                self.check(self.peak(tree, limit), 0)
            if deepest:
                self.assertGreater(self.peak(tree, deepest), 0)

    def test_forty_nodes(self):
        for tree, peaks in [(PATH_40, [1, 1, 1, 0]), (BACKWARDS_40, [1, 1, 1, 0]), (STAR_40, [39, 0, 0, 0]),
                            (SIXES, [10, 30, 0, 0]), (COMB_40, [2, 2, 2, 0]), (BUSHY_40, [7, 9, 27, 0])]:
            self.assertEqual([self.peak(tree, limit) for limit in (1, 2, 3, GREAT)], peaks)
        for tree in TREES_40:
            for limit in (1, 2, 3, 4, 5, 7, 39, GREAT):
                self.assertLessEqual(self.peak(tree, limit), plain_peak(tree, limit))

    def test_the_root_with_six_children(self):
        # Whatever the order, five stay on the shelf while the last one puts five there.
        for limit, peak in [(1, 10), (2, 30), (3, 0), (GREAT, 0)]:
            self.check(self.peak(SIXES, limit), peak)
        uneven = rows_of_sizes([0, 1, 2, 3, 4, 5])
        self.assertEqual(plain_peak(uneven, 1), 10)
        self.check(self.peak(uneven, 1), 6)


def rows_of_sizes(sizes):
    """A root whose children have these numbers of children."""
    many = len(sizes)
    rows, first = [tuple(range(1, many + 1))], many + 1
    for size in sizes:
        rows.append(tuple(range(first, first + size)))
        first += size
    return tuple(rows) + ((),) * (first - len(rows))


if __name__ == "__main__":
    unittest.main()
