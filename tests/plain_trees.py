"""Trees for the tests, and a second reading of what a tree, a shape and a log of a tree are."""

import functools
import itertools
import random

from tests.support import Model

PATH_40 = tuple((v + 1,) for v in range(39)) + ((),)
STAR_40 = (tuple(range(1, 40)),) + ((),) * 39
BACKWARDS_40 = ((),) + tuple((v,) for v in range(39))
COMB_40 = tuple((v + 1, v + 2) if v % 2 == 0 and v < 38 else (39,) if v == 38 else () for v in range(40))
EXAMPLE = ((), (2, 0), (3,), ())


def random_tree(seed, most=12, least=1):
    """A tree that depends on the seed only, with nodes numbered in any order."""
    chance = random.Random(seed)
    n = chance.randint(least, most)
    nodes = chance.sample(range(n), n)
    children = [[] for _ in range(n)]
    deep = chance.random()
    for at in range(1, n):
        parent = at - 1 if chance.random() < deep else chance.randrange(at)
        row = children[nodes[parent]]
        row.insert(chance.randint(0, len(row)), nodes[at])
    return tuple(tuple(row) for row in children)


TREES = [((),), ((1,), ()), ((), (0,)), EXAMPLE, PATH_40, STAR_40, BACKWARDS_40, COMB_40]
TREES += [random_tree(seed) for seed in range(60)] + [random_tree(seed, 40, 40) for seed in range(12)]


@functools.lru_cache(maxsize=None)
def all_shapes(n):
    """The shapes of n nodes: a root with each forest of n - 1 nodes, in ascending order."""
    return sorted((len(forest),) + sum(forest, ()) for forest in all_forests(n - 1))


@functools.lru_cache(maxsize=None)
def all_forests(n):
    """The tuples of shapes with n nodes together."""
    found = [()] if n == 0 else []
    for first in range(1, n + 1):
        found += [(shape,) + rest for shape in all_shapes(first) for rest in all_forests(n - first)]
    return found


def numbered(shape, nodes):
    """The tree of this shape with these nodes in preorder."""
    nodes = iter(nodes)
    counts = iter(shape)
    children = [()] * len(shape)

    def grow():
        node = next(nodes)
        children[node] = tuple([grow() for _ in range(next(counts))])
        return node

    grow()
    return tuple(children)


@functools.lru_cache(maxsize=None)
def all_trees(n):
    """All trees of n nodes."""
    return [numbered(shape, nodes) for shape in all_shapes(n) for nodes in itertools.permutations(range(n))]


def plain_root(tree):
    return next(v for v in range(len(tree)) if all(v not in row for row in tree))


def plain_shape(tree):
    def below(v):
        return sum((below(w) for w in tree[v]), (len(tree[v]),))
    return below(plain_root(tree))


def plain_heap(tree):
    root = plain_root(tree)
    return (tree, tuple(int(v == root) for v in range(len(tree))))


def plain_log(tree, limit):
    """The log that the second machine gives."""
    return tuple(Model(plain_heap(tree), limit).drop(plain_root(tree)).log)
