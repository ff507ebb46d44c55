"""How long the shelf becomes during a drop."""

from slotfall.machine import drop
from slotfall.needs import need_reference
from slotfall.tracing import trace


def shelf_history(heap, node, *, limit):
    """For each position of the log, the greatest length of the shelf up to the next position."""
    history = []
    length = 0
    for event in trace(heap, node, limit=limit):
        if event[0] in ("shelve", "take"):
            length = event[2]
        if event[0] == "destroy":
            history.append(length)
        elif history:
            history[-1] = max(history[-1], length)
    return tuple(history)


def shelf_peak(heap, node, *, limit):
    """The greatest entry of the shelf history and its first position."""
    history = shelf_history(heap, node, limit=limit)
    if not history:
        return (0, None)
    peak = max(history)
    return (peak, history.index(peak))


def least_limit(heap, node, *, most):
    """The least limit for which the peak is at most this number."""
    # A heap of one node leaves no limit to try, and no drop that would raise the error.
    need_reference(heap, node)
    many = len(heap[0])
    for limit in range(1, many):
        if drop(heap, node, limit=limit)[1] <= most:
            return limit
    # No depth reaches the number of nodes, so with it nothing is ever put on the shelf.
    return many
