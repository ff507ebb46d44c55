"""Points 12 and 42 to 44: trees, their heaps and their logs."""

import itertools
import unittest

from slotfall.errors import InvalidTree
from slotfall.heaps import is_heap
from slotfall.machine import drop
from slotfall.trees import is_tree, log_of, make_tree, root_of, tree_heap
from tests.plain_trees import (BACKWARDS_40, COMB_40, EXAMPLE, PATH_40, STAR_40, TREES, all_trees, plain_heap, plain_log,
                               plain_root)
from tests.support import StrictCase, lists_of

GREAT = 10 ** 30
PATH_41 = tuple((v + 1,) for v in range(40)) + ((),)
# Values that are no list and no tuple of 1 to 40 entries.
NO_ROWS = [None, True, False, 0, 1, -1, 10 ** 99, "", "a", "()", (), [], PATH_41, list(PATH_41), ((),) * 41, [None] * 1000]
# Values that are no list and no tuple of nodes, in a tree of at most 40 nodes.
NO_CHILDREN = [None, True, False, 0, 1, -1, 10 ** 99, "", "0", (-1,), (40,), [40], (10 ** 99,), (True,), [False], (None,),
               ("0",), ((),), ([],), [[0]], ((0,),)]


class IsTreeTest(StrictCase):
    def test_example(self):
        self.check([is_tree(((1, 2), (), ())), is_tree(((1,), (0,))), is_tree(())], [True, False, False])

    def test_trees(self):
        for tree in TREES:
            self.check(is_tree(value=tree), True)
        for n in range(1, 5):
            for tree in all_trees(n):
                self.check(is_tree(tree), True)

    def test_values_of_other_kinds(self):
        for value in NO_ROWS:
            self.check(is_tree(value), False)
        for row in NO_CHILDREN:
            for value in [(row,), ((1,), row), ((), row), (row, ()), ((1, 2), (), row)]:
                self.check(is_tree(value), False)

    def test_lists(self):
        for tree in [((),), ((1,), ()), ((1, 2), (), ())]:
            self.check(is_tree(tree), True)
            self.check(is_tree(lists_of(tree)), False)
            self.check(is_tree(list(tree)), False)
            for v in range(len(tree)):
                self.check(is_tree(tree[:v] + (list(tree[v]),) + tree[v + 1:]), False)

    def test_booleans(self):
        self.check(is_tree(((1,), ())), True)
        self.check(is_tree(((True,), ())), False)
        self.check(is_tree(((), (0,))), True)
        self.check(is_tree(((), (False,))), False)

    def test_no_trees(self):
        for value in [((1, 1), ()), ((1,), (), (1,)), ((1,), (1,)), ((), ()), ((), (), (0,)), ((0,),), ((0,), (1,)),
                      ((1,), (0,)), ((), (2,), (1,)), ((1,), (), (3,), (2,)), ((2,), (), ()), ((1,),), ((1, 2), ()),
                      ((1, 3), (), ()), ((-1,), ()), ((1,), (2,), (0,)), PATH_40[:39] + ((0,),),
                      PATH_40[:38] + ((), (39,))]:
            self.check(is_tree(value), False)

    def test_all_small_values(self):
        for n in (1, 2, 3):
            trees = all_trees(n)
            for value in small_values(n):
                self.check(is_tree(value), value in trees)


class MakeTreeTest(StrictCase):
    def test_example(self):
        self.check(make_tree([[], [2, 0], []]), ((), (2, 0), ()))
        self.refused("cycle", 1, [[], [2], [1]])

    def refused(self, reason, node, children):
        self.fails(InvalidTree, {"reason": reason, "node": node}, make_tree, children)
        self.fails(InvalidTree, {"reason": reason, "node": node}, make_tree, lists_of(children))

    def test_lists_and_tuples(self):
        for tree in TREES:
            for children in (tree, list(tree), lists_of(tree), tuple(lists_of(tree)), list(tree[:1]) + lists_of(tree[1:])):
                self.check(make_tree(children=children), tree)

    def test_a_list_that_changes_later(self):
        children = [[1, 2], [], []]
        tree = make_tree(children)
        children[0].append(3)
        children[1] = [0]
        children.append([])
        self.check(tree, ((1, 2), (), ()))

    def test_shape(self):
        for value in NO_ROWS:
            self.refused("shape", -1, value)

    def test_entry(self):
        for row in NO_CHILDREN:
            self.refused("entry", 0, (row,))
            self.refused("entry", 1, ((), row))
            self.refused("entry", 0, (row, row))
            # Before every other problem.
            self.refused("entry", 3, ((1, 1), (0,), (), row))
            self.refused("entry", 39, ((),) * 39 + (row,))
        self.refused("entry", 0, ((1, 2), ()))
        self.refused("entry", 2, ((1,), (2,), (3,)))
        self.refused("entry", 1, ((1,), [0] * 500 + [2]))

    def test_twice(self):
        self.refused("twice", 1, ((1, 1), ()))
        self.refused("twice", 2, ((2,), (2,), ()))
        self.refused("twice", 1, ((2, 2), (1, 1), ()))
        # Entries of any length.
        self.refused("twice", 0, ((0,) * 900,))
        self.refused("twice", 3, ((3, 2, 1), (), (), (3,) * 100))
        # Before a second root, no root and a cycle.
        self.refused("twice", 3, ((), (), (), (3, 3)))
        self.refused("twice", 0, ((1,), (0, 0)))
        self.refused("twice", 2, ((), (2,), (1, 2)))

    def test_root(self):
        self.refused("root", 1, ((), ()))
        self.refused("root", 2, ((), (0,), ()))
        self.refused("root", 39, PATH_40[:38] + ((), ()))
        self.refused("root", 3, ((), (2,), (0,), (), ()))
        self.refused("root", -1, ((0,),))
        self.refused("root", -1, ((1,), (0,)))
        self.refused("root", -1, PATH_40[:39] + ((0,),))
        # Before a cycle.
        self.refused("root", 3, ((), (2,), (1,), ()))

    def test_cycle(self):
        self.refused("cycle", 1, ((), (1,)))
        self.refused("cycle", 0, ((0,), (2,), ()))
        self.refused("cycle", 2, ((1,), (), (3,), (2,)))
        self.refused("cycle", 1, ((), (3,), (2,), (1,)))
        self.refused("cycle", 1, ((),) + tuple((v % 39 + 1,) for v in range(1, 40)))
        # A node below a cycle cannot be reached either.
        self.refused("cycle", 0, ((), (2,), (1, 0), ()))

    def test_all_small_values(self):
        for n in (1, 2, 3):
            for value in small_values(n):
                problem = first_problem(value)
                if problem is None:
                    self.check(make_tree(lists_of(value)), value)
                else:
                    self.refused(*problem, value)


class TreeHeapTest(StrictCase):
    def test_example(self):
        found = [root_of(EXAMPLE), tree_heap(EXAMPLE), log_of(EXAMPLE, limit=1), log_of(EXAMPLE, limit=2)]
        self.check(found, [1, (((), (2, 0), (3,), ()), (0, 1, 0, 0)), (1, 0, 2, 3), (1, 2, 0, 3)])

    def test_edges(self):
        self.check([root_of(((),)), tree_heap(((),)), log_of(((),), limit=1)], [0, (((),), (1,)), (0,)])
        self.check(root_of(BACKWARDS_40), 39)
        self.check(tree_heap(BACKWARDS_40), (BACKWARDS_40, (0,) * 39 + (1,)))
        for limit in (1, 2, 40, GREAT):
            self.check(log_of(PATH_40, limit=limit), tuple(range(40)))
            self.check(log_of(BACKWARDS_40, limit=limit), tuple(range(39, -1, -1)))
        self.check(log_of(STAR_40, limit=1), (0,) + tuple(range(39, 0, -1)))
        self.check(log_of(STAR_40, limit=2), tuple(range(40)))
        self.check(log_of(tree=COMB_40, limit=1)[:7], (0, 2, 4, 6, 8, 10, 12))
        self.check(log_of(COMB_40, limit=40), tuple(range(40)))

    def test_any_root(self):
        for tree in TREES + [tree for n in range(1, 5) for tree in all_trees(n)]:
            root, heap = plain_root(tree), plain_heap(tree)
            self.check(root_of(tree=tree), root)
            self.check(tree_heap(tree=tree), heap)
            self.assertTrue(is_heap(heap))
            for limit in (1, 2, 3, 4, len(tree), GREAT):
                log = log_of(tree, limit=limit)
                self.check(log, drop(heap, root, limit=limit)[0])
                self.check(log, plain_log(tree, limit))
                self.assertEqual(sorted(log), list(range(len(tree))))


def small_values(n):
    """Tuples of n rows of nodes; the rows are short enough to list them all."""
    rows = [row for size in range(min(n, 2) + 1) for row in itertools.product(range(n), repeat=size)]
    return itertools.product(rows, repeat=n)


def first_problem(rows):
    """The problems 3 to 5 of point 43, for rows of nodes."""
    children = [child for row in rows for child in row]
    roots = [v for v in range(len(rows)) if v not in children]
    for v in range(len(rows)):
        if children.count(v) > 1:
            return ("twice", v)
    if len(roots) != 1:
        return ("root", roots[1] if len(roots) > 1 else -1)
    reached = [roots[0]]
    for v in reached:
        reached += rows[v]
    missed = [v for v in range(len(rows)) if v not in reached]
    return ("cycle", missed[0]) if missed else None


if __name__ == "__main__":
    unittest.main()
