"""Destroying what cannot be reached."""

from slotfall.actions import run_collect
from slotfall.heaps import live_nodes


def collect(heap, *, limit):
    """Destroys all nodes that are not reachable: the log, the greatest peak and the heap after it."""
    return run_collect(heap, live_nodes(heap), limit).result()
