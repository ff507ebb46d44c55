"""The node order and the slot order of a release tree."""

from slotfall.needs import need_freed


def depths(tree):
    """A tuple with the depth of each node, None for a node that is not in the tree."""
    return tuple([None if entry is None else len(_slots_to(tree, node)) for node, entry in enumerate(tree)])


def node_before(tree, first, second, *, limit):
    """True if the first node comes before the second one in the node order."""
    nodes = _nodes_in(tree)
    need_freed(nodes, first)
    need_freed(nodes, second)
    return _node_rank(tree, first, limit) < _node_rank(tree, second, limit)


def slot_before(tree, one, other, *, limit):
    """True if the first slot comes before the second one in the slot order."""
    return _slot_rank(tree, one, limit) < _slot_rank(tree, other, limit)


def tree_log(tree, *, limit):
    """The tuple of the nodes of the tree in the node order."""
    ranked = sorted([(_node_rank(tree, node, limit), node) for node in _nodes_in(tree)])
    return tuple([node for _, node in ranked])


def _nodes_in(tree):
    return [node for node, entry in enumerate(tree) if entry is not None]


def _slots_to(tree, node):
    """The numbers of the entry slots on the way from the root to the node."""
    slots = []
    while tree[node] != ():
        node, slot = tree[node]
        slots.append(slot)
    return slots[::-1]


def _node_rank(tree, node, limit):
    """A list of integers: of two nodes, the one with the lesser list comes first in the node order.

    The entry slots on the way from the root are cut into pieces, each as long as the limit. The node is far
    from the holders of the slots of a full piece, and near to the holders of those that are left.
    """
    rank = []
    piece = []
    for slot in _slots_to(tree, node):
        piece.append(slot)
        if len(piece) >= limit:
            # The 1 puts the node behind all that are near; among the far ones the greater slot is first.
            rank.extend([1] + [-2 * number for number in piece])
            piece = []
    return rank + [0] + [2 * number for number in piece]


def _slot_rank(tree, pair, limit):
    """As _node_rank, for a slot in the slot order."""
    node, slot = pair
    # An entry slot stands in a rank as an even number, so an odd one falls between two of them: the slot
    # comes after what is near through the slots before it, and before what is near through the others.
    return _node_rank(tree, node, limit) + [2 * slot - 1]
