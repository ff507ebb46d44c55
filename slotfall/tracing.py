"""The events of a drop, one by one."""

from slotfall.actions import run_drop


def trace(heap, node, *, limit):
    """The list of the events of the drop, in order."""
    return list(run_drop(heap, node, limit).events)
