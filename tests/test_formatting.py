"""Points 78 and 79: the texts of heaps, trees and logs."""

import itertools
import unittest

from slotfall.formatting import format_heap, format_log, format_tree
from slotfall.parsing import parse_heap, parse_log, parse_tree
from tests.plain_store import loose_heap
from tests.plain_trees import BACKWARDS_40, EXAMPLE, PATH_40, STAR_40, TREES, all_trees
from tests.support import (APART, EMPTY, HEAPS, HOLES, LONG_PATH, LOOP, MANY, RING, TREE, TWICE, WIDE_STAR, StrictCase,
                           random_heap)

SOME_HEAPS = HEAPS + [random_heap(seed) for seed in range(200)] + [loose_heap(seed, 40) for seed in range(20)]


class FormatHeapTest(StrictCase):
    def test_example(self):
        self.check(format_heap((((1, None), (), None), (1, 0, 0))), "1 1 -\n0\nfree")

    def test_edges(self):
        for heap, text in [(EMPTY, ""), (((None,), (0,)), "free"), ((((),), (9,)), "9"), ((((None,),), (1,)), "1 -"),
                           ((((0,),), (0,)), "0 0"), (((None, None), (0, 0)), "free\nfree"), (TREE, "1 1 2\n0 3\n0\n0"),
                           (MANY, "3 1 2\n1 3\n0\n0"), (TWICE, "1 1 1\n0"), (LOOP, "1 0 1\n0"),
                           (RING, "1 1\n0 2\n0 0 3\n0"),
                           (HOLES, "1 - 2 - 4\nfree\n0 - 5\nfree\n0\n0"), (APART, "0 1\n0 0\n1 3\n0")]:
            self.check(format_heap(heap=heap), text)

    def test_forty_nodes(self):
        self.check(format_heap(LONG_PATH).split("\n"), ["1 1"] + [f"0 {v}" for v in range(2, 40)] + ["0"])
        self.check(format_heap(WIDE_STAR), "1 " + " ".join(map(str, range(1, 40))) + " -" + "\n0" * 39)

    def test_read_back(self):
        for heap in SOME_HEAPS:
            self.check(parse_heap(format_heap(heap)), heap)

    def test_equal_texts(self):
        texts = {}
        for heap in SOME_HEAPS:
            self.check(texts.setdefault(format_heap(heap), heap), heap)


class FormatTreeTest(StrictCase):
    def test_example(self):
        self.check(format_tree(((2, 1), (), ())), "2 1\n-\n-")

    def test_edges(self):
        for tree, text in [(((),), "-"), (((1,), ()), "1\n-"), (((), (0,)), "-\n0"), (EXAMPLE, "-\n2 0\n3\n-"),
                           (PATH_40, "\n".join(map(str, range(1, 40))) + "\n-"),
                           (BACKWARDS_40, "-\n" + "\n".join(map(str, range(39)))),
                           (STAR_40, " ".join(map(str, range(1, 40))) + "\n-" * 39)]:
            self.check(format_tree(tree=tree), text)

    def test_read_back(self):
        for tree in TREES + [tree for n in range(1, 5) for tree in all_trees(n)]:
            self.check(parse_tree(format_tree(tree)), tree)

    def test_equal_texts(self):
        found = [tree for n in range(1, 6) for tree in all_trees(n)]
        self.assertEqual(len({format_tree(tree) for tree in found}), len(found))


class FormatLogTest(StrictCase):
    def test_example(self):
        self.check([format_log((0, 12)), format_log(())], ["0 12", "-"])

    def test_edges(self):
        great = 10 ** 80
        for log, text in [([], "-"), ((0,), "0"), ([0], "0"), ([3, 1, 2], "3 1 2"), ((5, 5), "5 5"),
                          ([0, 0, 0], "0 0 0"), ((great,), "1" + "0" * 80), ([great - 1, 0], "9" * 80 + " 0"),
                          (tuple(range(40)), " ".join(map(str, range(40))))]:
            self.check(format_log(log=log), text)

    def test_read_back(self):
        for many in range(5):
            for log in itertools.permutations((0, 1, 10, 39, 7), many):
                self.check(parse_log(format_log(log)), log)
                self.check(parse_log(format_log(list(log))), log)

    def test_equal_texts(self):
        logs = [log for many in range(4) for log in itertools.product((0, 1, 2, 10, 11, 12, 100), repeat=many)]
        self.assertEqual(len({format_log(log) for log in logs}), len(logs))


if __name__ == "__main__":
    unittest.main()
