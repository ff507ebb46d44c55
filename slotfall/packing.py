"""Rearranging the children of a tree so that the shelf stays short."""

from slotfall.tracing import trace
from slotfall.trees import preorder, root_of, tree_heap


def least_peak(tree, *, limit):
    """The least peak of all rearrangements, and one that has it."""
    root = root_of(tree)
    # The depths alone decide which nodes are put on the shelf, so these are the same in all rearrangements.
    shelved = [event[1] for event in trace(tree_heap(tree), root, limit=limit) if event[0] == "shelve"]
    arranged = list(tree)
    # For each node, how many nodes from its part of the tree lie on the shelf together when none of them has
    # been taken, and the greatest length from then on until all of them are destroyed.
    loads = {}
    for node in preorder(tree, root)[::-1]:
        arranged[node] = _lowest_first(tree[node], loads)
        many, height = _load_of(arranged[node], loads)
        loads[node] = (1, max(1, height)) if node in shelved else (many, height)
    return (loads[root][1], tuple(arranged))


def _lowest_first(row, loads):
    """The children in the order that keeps the shelf shortest."""
    # What grows most beyond its own number of nodes goes to the bottom, below all that lies on the shelf.
    ranked = sorted([(loads[child][0] - loads[child][1], slot) for slot, child in enumerate(row)])
    return tuple([row[slot] for _, slot in ranked])


def _load_of(row, loads):
    """The load of children that are released in this order."""
    many = 0
    height = 0
    for child in row:
        more, top = loads[child]
        height = max(height, many + top)
        many += more
    return (many, height)
