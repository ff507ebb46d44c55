"""Drops, and changes of slots that end in drops."""

from slotfall.actions import run_drop, run_empty, run_put


def drop(heap, node, *, limit):
    """Drops an outside reference: the log, the peak and the heap after it."""
    return run_drop(heap, node, limit).result()


def set_slot(heap, node, slot, target, *, limit):
    """Fills or empties a slot: the log, the peak and the heap after it."""
    return run_put(heap, node, slot, target, limit).result()


def empty_slots(heap, node, *, limit):
    """Empties all slots of a node: the log, the peak and the heap after it."""
    return run_empty(heap, node, limit).result()
