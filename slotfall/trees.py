"""Trees: their form, their heaps and their logs."""

from slotfall.errors import InvalidTree
from slotfall.heaps import slot_uses
from slotfall.kinds import is_between, is_row
from slotfall.machine import drop

MOST_TREE_NODES = 40


def is_tree(value):
    """True if the value is a tree."""
    if not isinstance(value, tuple) or not all([isinstance(row, tuple) for row in value]):
        return False
    return _first_problem(value) is None


def make_tree(children):
    """The tree with these children, which may be lists."""
    problem = _first_problem(children)
    if problem is not None:
        reason, node = problem
        raise InvalidTree(reason, node)
    return tuple([tuple(row) for row in children])


def root_of(tree):
    """The node that is no child."""
    return slot_uses(tree).index(0)


def tree_heap(tree):
    """The heap with the children as slots and one outside reference, to the root."""
    root = root_of(tree)
    return (tree, tuple([1 if node == root else 0 for node in range(len(tree))]))


def log_of(tree, *, limit):
    """The log of dropping the root of the heap of the tree."""
    return drop(tree_heap(tree), root_of(tree), limit=limit)[0]


def preorder(children, root):
    """The list of the nodes from the root on, with the children from the first to the last."""
    found = []
    waiting = [root]
    while waiting:
        node = waiting.pop()
        found.append(node)
        waiting.extend(children[node][::-1])
    return found


def _first_problem(children):
    """The reason and the node for which these are not a tree, or None."""
    if not is_row(children) or not 1 <= len(children) <= MOST_TREE_NODES:
        return ("shape", -1)
    many = len(children)
    for node, row in enumerate(children):
        if not is_row(row) or not all([is_between(child, 0, many - 1) for child in row]):
            return ("entry", node)
    uses = slot_uses(children)
    for node, number in enumerate(uses):
        if number > 1:
            return ("twice", node)
    roots = [node for node, number in enumerate(uses) if number == 0]
    if len(roots) != 1:
        return ("root", roots[1] if roots else -1)
    # The walk ends: no node is a child twice, and the root is none at all.
    reached = preorder(children, roots[0])
    for node in range(many):
        if node not in reached:
            return ("cycle", node)
    return None
