"""Shapes of trees, their numbers, and the trees that have a given log."""

from math import comb

from slotfall.errors import NoPosition, TooMany
from slotfall.kinds import is_between, is_integer
from slotfall.trees import MOST_TREE_NODES, log_of, preorder, root_of

MOST_LISTED_NODES = 8


def is_shape(value):
    """True if the value is the shape of a tree."""
    if not isinstance(value, tuple) or not 1 <= len(value) <= MOST_TREE_NODES:
        return False
    # One place is open for the root; each node fills a place and opens one for each of its children.
    places = 1
    for many in value:
        if places == 0 or not is_integer(many) or many < 0:
            return False
        places += many - 1
    return places == 0


def shape_of(tree):
    """The numbers of children of the nodes, in preorder."""
    return tuple([len(tree[node]) for node in preorder(tree, root_of(tree))])


def count_shapes(size):
    """How many shapes of this size there are."""
    return _count_forests(1, size)


def shape_index(shape):
    """How many shapes of the same size come before this one."""
    index = 0
    places = 1
    left = len(shape)
    for many in shape:
        left -= 1
        # The shapes that agree up to here and have fewer children at this node.
        index += sum([_count_forests(places - 1 + fewer, left) for fewer in range(many)])
        places += many - 1
    return index


def shape_at(size, index):
    """The shape of this size with this number."""
    if not is_between(index, 0, count_shapes(size) - 1):
        raise NoPosition(index)
    shape = []
    places = 1
    rest = index
    for left in range(size - 1, -1, -1):
        many = 0
        while rest >= _count_forests(places - 1 + many, left):
            rest -= _count_forests(places - 1 + many, left)
            many += 1
        shape.append(many)
        places += many - 1
    return tuple(shape)


def tree_with_log(shape, log, *, limit):
    """The tree of this shape with this log."""
    plan = _preorder_tree(shape)
    # The order of the log hangs on the shape alone, so the nodes of the plan only need other numbers.
    numbers = {planned: node for planned, node in zip(log_of(plan, limit=limit), log)}
    tree = [()] * len(plan)
    for planned, row in enumerate(plan):
        tree[numbers[planned]] = tuple([numbers[child] for child in row])
    return tuple(tree)


def trees_with_log(log, *, limit):
    """All trees with this log, in the order of the numbers of their shapes."""
    size = len(log)
    if size > MOST_LISTED_NODES:
        raise TooMany(MOST_LISTED_NODES)
    return [tree_with_log(shape_at(size, index), log, limit=limit) for index in range(count_shapes(size))]


def _count_forests(trees, nodes):
    """In how many ways rows of this number of trees can be made of this number of nodes."""
    if trees >= nodes:
        return 1 if trees == nodes else 0
    # The cycle lemma: of all rows of numbers with the right sum, this share closes no place too early.
    return trees * comb(2 * nodes - trees - 1, nodes - 1) // nodes


def _preorder_tree(shape):
    """The tree of this shape whose nodes are numbered in preorder."""
    children = [[] for _ in shape]
    # The holders of the open places; the place of the next node is the last one.
    holders = []
    for node, many in enumerate(shape):
        if node > 0:
            children[holders.pop()].append(node)
        holders.extend([node] * many)
    return tuple([tuple(row) for row in children])
