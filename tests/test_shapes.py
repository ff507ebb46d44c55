"""Points 45 to 49: shapes, their numbers, and trees with a given log."""

import itertools
import random
import unittest

from slotfall.errors import NoPosition, TooMany
from slotfall.shapes import count_shapes, is_shape, shape_at, shape_index, shape_of, tree_with_log, trees_with_log
from slotfall.trees import is_tree, log_of
from tests.plain_trees import (BACKWARDS_40, COMB_40, EXAMPLE, PATH_40, STAR_40, TREES, all_shapes, all_trees, numbered,
                               plain_log, plain_shape, random_tree)
from tests.support import StrictCase

GREAT = 10 ** 30
PATH_SHAPE = (1,) * 39 + (0,)
STAR_SHAPE = (39,) + (0,) * 39
CATALAN = [1, 1, 2, 5, 14, 42, 132, 429, 1430, 4862, 16796, 58786, 208012, 742900, 2674440]
NO_SHAPES = [None, True, False, 0, 1, -1, 10 ** 99, "", "0", "10", (), [], [0], [1, 0], [2, 0, 0], (None,), ("0",), ("",),
             ((),), ((0,),), ([0],), ([],), ((1,), ()), (False,), (True, 0), (1, False), (1, "0"), (1, None), (1, (0,)),
             (2, 0, False), (2, False, 0)]


class IsShapeTest(StrictCase):
    def test_example(self):
        self.check([shape_of(EXAMPLE), is_shape((2, 1, 0, 0)), is_shape((0, 1))], [(2, 1, 0, 0), True, False])

    def test_every_small_shape(self):
        for n in range(1, 7):
            shapes = [shape for shape in itertools.product(range(n + 1), repeat=n) if is_shape(shape)]
            self.check(shapes, all_shapes(n))

    def test_forty_and_forty_one_nodes(self):
        for shape in (PATH_SHAPE, STAR_SHAPE, (2,) + (1, 0) + (1,) * 36 + (0,), (20,) + (0,) * 19 + (19,) + (0,) * 19):
            self.check(is_shape(value=shape), True)
            self.check(is_shape((1,) + shape), False)
        self.check(is_shape((40,) + (0,) * 40), False)
        self.check(is_shape((39,) + (0,) * 38), False)
        self.check(is_shape((38,) + (0,) * 39), False)

    def test_places_close_too_early_or_stay_open(self):
        for value in [(0, 0), (0, 1), (0, 1, 0), (1, 0, 0), (1, 0, 1), (1, 0, 1, 0), (0, 2, 0), (2, 0, 0, 0),
                      (1, 0, 2, 0, 0)]:
            self.check(is_shape(value), False)
        for value in [(1,), (2,), (40,), (2, 0), (1, 1), (2, 1, 0), (3, 0, 0), (10 ** 99,), (1,) * 40, (10 ** 99, 0)]:
            self.check(is_shape(value), False)
        for value in [(-1,), (1, -1), (2, -1), (2, 0, -1), (3, 0, -1, 0), (2, 1, -1, 1), (-1, 2), (-1, 3, 0)]:
            self.check(is_shape(value), False)

    def test_values_of_other_kinds(self):
        for value in NO_SHAPES:
            self.check(is_shape(value), False)
        for n in range(1, 6):
            for shape in all_shapes(n):
                self.check(is_shape(shape), True)
                self.check(is_shape(list(shape)), False)
                for at in range(n):
                    if shape[at] < 2:
                        self.check(is_shape(shape[:at] + (bool(shape[at]),) + shape[at + 1:]), False)


class ShapeOfTest(StrictCase):
    def test_edges(self):
        self.check(shape_of(((),)), (0,))
        self.check(shape_of(tree=((), (0,))), (1, 0))
        self.check(shape_of(PATH_40), PATH_SHAPE)
        self.check(shape_of(BACKWARDS_40), PATH_SHAPE)
        self.check(shape_of(STAR_40), STAR_SHAPE)
        self.check(shape_of(COMB_40)[:5], (2, 0, 2, 0, 2))

    def test_every_small_tree(self):
        for n in range(1, 5):
            for shape in all_shapes(n):
                for nodes in itertools.permutations(range(n)):
                    self.check(shape_of(numbered(shape, nodes)), shape)

    def test_by_the_definition(self):
        for tree in TREES:
            self.check(shape_of(tree), plain_shape(tree))
            self.check(is_shape(shape_of(tree)), True)

    def test_the_numbers_of_the_nodes_do_not_matter(self):
        for seed in range(30):
            tree = random_tree(seed, 40)
            numbers = list(range(len(tree)))
            random.Random(seed).shuffle(numbers)
            renumbered = [()] * len(tree)
            for v, row in enumerate(tree):
                renumbered[numbers[v]] = tuple(numbers[child] for child in row)
            self.check(shape_of(tuple(renumbered)), shape_of(tree))


class NumbersTest(StrictCase):
    def test_example(self):
        self.check([count_shapes(4), shape_index((2, 1, 0, 0)), shape_at(4, 1)], [5, 3, (1, 2, 0, 0)])
        self.fails(NoPosition, {"position": 5}, shape_at, 4, 5)

    def test_counts(self):
        for size, count in enumerate(CATALAN, 1):
            self.check(count_shapes(size=size), count)
        catalan = [1]
        for size in range(2, 41):
            catalan.append(sum(catalan[k] * catalan[size - 2 - k] for k in range(size - 1)))
            self.check(count_shapes(size), catalan[-1])

    def test_every_index_of_small_sizes(self):
        for size in range(1, 9):
            shapes = all_shapes(size)
            self.assertEqual(len(shapes), count_shapes(size))
            for index, shape in enumerate(shapes):
                self.check(shape_index(shape=shape), index)
                self.check(shape_at(size=size, index=index), shape)

    def test_size_forty(self):
        last = count_shapes(40) - 1
        self.check([shape_at(40, 0), shape_at(40, last)], [PATH_SHAPE, STAR_SHAPE])
        self.check([shape_index(PATH_SHAPE), shape_index(STAR_SHAPE)], [0, last])
        self.check(shape_at(40, 1), (1,) * 37 + (2, 0, 0))
        self.check(shape_at(40, last - 1), (38, 1) + (0,) * 38)
        before = None
        for part in range(200):
            index = last * part // 199
            shape = shape_at(40, index)
            self.check(is_shape(shape), True)
            self.check(shape_index(shape), index)
            self.assertTrue(before is None or before < shape)
            before = shape

    def test_no_position(self):
        for size in (1, 2, 3, 8, 40):
            for value in [-1, count_shapes(size), count_shapes(size) + 1, 10 ** 99, -10 ** 99, True, False, "0", "", None,
                          [], [0], (), (0,), ((0,),)]:
                self.fails(NoPosition, {"position": value}, shape_at, size, value)


class TreeWithLogTest(StrictCase):
    def test_example(self):
        self.check(tree_with_log((2, 1, 0, 0), (3, 0, 1, 2), limit=1), ((), (2,), (), (1, 0)))

    def test_every_small_tree_comes_back(self):
        for n in range(1, 5):
            for tree in all_trees(n):
                for limit in (1, 2, 3, 4, GREAT):
                    self.check(tree_with_log(plain_shape(tree), plain_log(tree, limit), limit=limit), tree)

    def test_every_shape_and_log(self):
        for n in range(1, 5):
            for shape in all_shapes(n):
                for log in itertools.permutations(range(n)):
                    for limit in (1, 2, 3, 4, GREAT):
                        tree = tree_with_log(shape=shape, log=log, limit=limit)
                        self.check([is_tree(tree), plain_shape(tree), plain_log(tree, limit)], [True, shape, log])

    def test_there_is_no_other_one(self):
        for limit in (1, 2, 3):
            found = {(plain_shape(tree), plain_log(tree, limit)) for tree in all_trees(4)}
            self.assertEqual(len(found), len(all_trees(4)))

    def test_forty_nodes(self):
        upwards, downwards = tuple(range(40)), tuple(range(39, -1, -1))
        for limit in (1, 2, 3, 39, 40, GREAT):
            self.check(tree_with_log(PATH_SHAPE, upwards, limit=limit), PATH_40)
            self.check(tree_with_log(PATH_SHAPE, downwards, limit=limit), BACKWARDS_40)
        self.check(tree_with_log(STAR_SHAPE, upwards, limit=2), STAR_40)
        self.check(tree_with_log(STAR_SHAPE, upwards, limit=1), (tuple(range(39, 0, -1)),) + ((),) * 39)
        for tree in TREES:
            for limit in (1, 2, 3, 5, 39, GREAT):
                self.check(tree_with_log(plain_shape(tree), plain_log(tree, limit), limit=limit), tree)


class TreesWithLogTest(StrictCase):
    def test_example(self):
        self.check(trees_with_log((0, 1, 2), limit=1), [((1,), (2,), ()), ((2, 1), (), ())])

    def test_small_sizes(self):
        self.check(trees_with_log((0,), limit=1), [((),)])
        self.check(trees_with_log(log=(1, 0), limit=GREAT), [((), (0,))])
        for n in range(1, 5):
            for log in itertools.permutations(range(n)):
                for limit in (1, 2, 3, GREAT):
                    expected = [tree for tree in all_trees(n) if plain_log(tree, limit) == log]
                    self.check(trees_with_log(log, limit=limit), sorted(expected, key=plain_shape))

    def test_as_many_as_shapes(self):
        for log in [(4, 0, 3, 1, 2), (5, 4, 3, 2, 1, 0), (2, 0, 6, 4, 1, 5, 3), (0, 1, 2, 3, 4, 5, 6, 7),
                    (7, 2, 5, 0, 1, 6, 4, 3)]:
            for limit in (1, 2, 3, GREAT):
                trees = trees_with_log(log, limit=limit)
                self.check([shape_of(tree) for tree in trees], all_shapes(len(log)))
                self.assertEqual(len(trees), count_shapes(len(log)))
                self.assertTrue(all(log_of(tree, limit=limit) == log for tree in trees))

    def test_a_new_list_each_time(self):
        first = trees_with_log((0, 1, 2), limit=1)
        first.clear()
        self.check(len(trees_with_log((0, 1, 2), limit=1)), 2)

    def test_too_many(self):
        for size in (9, 10, 39, 40):
            for limit in (1, GREAT):
                self.fails(TooMany, {"most": 8}, trees_with_log, tuple(range(size)), limit=limit)
                self.fails(TooMany, {"most": 8}, trees_with_log, tuple(range(size - 1, -1, -1)), limit=limit)


if __name__ == "__main__":
    unittest.main()
