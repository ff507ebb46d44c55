"""Drops, and changes of slots that end in drops."""

from slotfall.errors import NoNode, NoSlot
from slotfall.kinds import is_between
from slotfall.needs import is_live, need_live, need_reference
from slotfall.releasing import Releasing


def drop(heap, node, *, limit):
    """Drops an outside reference: the log, the peak and the heap after it."""
    need_reference(heap, node)
    work = Releasing(heap, limit)
    work.drop(node)
    return work.result()


def set_slot(heap, node, slot, target, *, limit):
    """Fills or empties a slot: the log, the peak and the heap after it."""
    need_live(heap, node)
    if not is_between(slot, 0, len(heap[0][node]) - 1):
        raise NoSlot(slot)
    if target is not None and not is_live(heap, target):
        raise NoNode(target)
    work = Releasing(heap, limit)
    work.put(node, slot, target)
    return work.result()


def empty_slots(heap, node, *, limit):
    """Empties all slots of a node: the log, the peak and the heap after it."""
    need_live(heap, node)
    work = Releasing(heap, limit)
    work.empty(node)
    return work.result()
