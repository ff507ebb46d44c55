"""The release tree of a drop."""

from slotfall.tracing import trace


def release_tree(heap, node, *, limit):
    """The release tree of the drop: for each destroyed node the slot whose emptying made its count 0."""
    tree = [None] * len(heap[0])
    for event in trace(heap, node, limit=limit):
        if event[0] == "release":
            _, holder, slot, released, count = event
            if count == 0:
                tree[released] = () if holder is None else (holder, slot)
    return tuple(tree)
