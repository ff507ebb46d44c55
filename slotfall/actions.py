"""The changes of a heap that release nodes; each returns the Releasing that has made it."""

from slotfall.errors import NoNode, NoSlot
from slotfall.kinds import is_between
from slotfall.needs import is_live, need_live, need_reference
from slotfall.reach import reachable
from slotfall.releasing import Releasing


def run_drop(heap, node, limit):
    """Drops an outside reference to the node."""
    need_reference(heap, node)
    work = Releasing(heap, limit)
    work.drop(node)
    return work


def run_put(heap, node, slot, target, limit):
    """Fills or empties a slot of the node."""
    need_live(heap, node)
    if not is_between(slot, 0, len(heap[0][node]) - 1):
        raise NoSlot(slot)
    if target is not None and not is_live(heap, target):
        raise NoNode(target)
    work = Releasing(heap, limit)
    work.put(node, slot, target)
    return work


def run_empty(heap, node, limit):
    """Empties all slots of the node."""
    need_live(heap, node)
    work = Releasing(heap, limit)
    work.empty(node)
    return work


def run_collect(heap, nodes, limit):
    """Empties the slots of those of the live nodes that are not reachable, in the order of nodes."""
    kept = reachable(heap)
    work = Releasing(heap, limit)
    for node in nodes:
        # An earlier one may have taken this one with it.
        if node not in kept and work.slots[node] is not None:
            work.empty(node)
    return work
