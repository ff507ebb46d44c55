"""What a node must be before a function can work with it."""

from slotfall.errors import NoNode, NoReference, NotFreed
from slotfall.kinds import is_between, is_integer


def is_live(heap, value):
    """True if the value is a live node of the heap."""
    slots = heap[0]
    return is_between(value, 0, len(slots) - 1) and slots[value] is not None


def need_live(heap, node):
    """Raises NoNode if the node is not a live node of the heap."""
    if not is_live(heap, node):
        raise NoNode(node)


def need_reference(heap, node):
    """Raises NoNode, then NoReference, if the node cannot be dropped."""
    need_live(heap, node)
    if heap[1][node] == 0:
        raise NoReference(node)


def need_freed(freed, value):
    """Raises NotFreed if the value is not one of the destroyed nodes."""
    if not is_integer(value) or value not in freed:
        raise NotFreed(value)
