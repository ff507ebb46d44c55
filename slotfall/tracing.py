"""The events of a drop, one by one."""

from slotfall.needs import need_reference
from slotfall.releasing import Releasing


def trace(heap, node, *, limit):
    """The list of the events of the drop, in order."""
    need_reference(heap, node)
    work = Releasing(heap, limit)
    work.drop(node)
    return list(work.events)
