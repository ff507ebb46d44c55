"""Checks release trees by comparing slots, without performing the drop."""

from slotfall.errors import InvalidCertificate
from slotfall.heaps import counts, holders, live_nodes
from slotfall.kinds import is_between, is_integer, is_pair
from slotfall.needs import is_live, need_reference
from slotfall.order import slot_before, tree_log


def check_tree(heap, node, value, *, limit):
    """The log of the drop, if the value is its release tree."""
    need_reference(heap, node)
    if not _has_shape(heap, value):
        raise InvalidCertificate("shape", -1)
    _check_root(heap, node, value)
    children = [child for child, entry in enumerate(value) if is_pair(entry)]
    for child in children:
        if not _is_held_by(heap, child, value[child]):
            raise InvalidCertificate("slot", child)
    for child in children:
        if not _leads_to(value, child, node):
            raise InvalidCertificate("cycle", child)
    for child in children:
        if heap[1][child] > 0 or not _is_held_inside(heap, value, child):
            raise InvalidCertificate("held", child)
    for other in live_nodes(heap):
        if value[other] is None and other != node and heap[1][other] == 0 and _is_held_inside(heap, value, other):
            raise InvalidCertificate("missing", other)
    for child in children:
        if _is_late(heap, value, child, limit):
            raise InvalidCertificate("late", child)
    return tree_log(value, limit=limit)


def _has_shape(heap, value):
    return isinstance(value, tuple) and len(value) == len(heap[0]) and all([_is_entry(entry) for entry in value])


def _is_entry(entry):
    if entry is None or entry == ():
        return True
    return is_pair(entry) and all([is_integer(number) for number in entry])


def _check_root(heap, node, tree):
    """The dropped node, and no other, is the root; without it there is no node in the tree at all."""
    destroyed = counts(heap)[node] == 1
    for other, entry in enumerate(tree):
        if not destroyed:
            wrong = entry is not None
        elif other == node:
            wrong = entry != ()
        else:
            wrong = entry == ()
        if wrong:
            raise InvalidCertificate("root", other)


def _is_held_by(heap, node, pair):
    """True if the pair is a slot of a live node that holds the node."""
    holder, slot = pair
    if not is_live(heap, holder):
        return False
    row = heap[0][holder]
    return is_between(slot, 0, len(row) - 1) and row[slot] == node


def _leads_to(tree, node, root):
    """True if following parents leads from the node to the root."""
    # A way without a repetition has fewer steps than the tree has entries.
    for _ in range(len(tree)):
        if not is_pair(tree[node]):
            break
        node = tree[node][0]
    return node == root


def _is_held_inside(heap, tree, node):
    """True if every slot that holds the node belongs to a node in the tree."""
    return all([tree[holder] is not None for holder, _ in holders(heap, node)])


def _is_late(heap, tree, node, limit):
    """True if some slot that holds the node comes after its entry slot."""
    return any([slot_before(tree, tree[node], pair, limit=limit) for pair in holders(heap, node)])
