"""Which nodes a drop destroys and which it keeps, with certificates."""

from slotfall.heaps import holders, live_nodes
from slotfall.machine import drop
from slotfall.needs import need_live

# Every limit destroys the same nodes, so any one of them will do here.
ANY_LIMIT = 1


def freed(heap, node):
    """The ascending list of the nodes that the drop destroys."""
    return sorted(drop(heap, node, limit=ANY_LIMIT)[0])


def kept(heap, node):
    """The ascending list of the nodes that are live after the drop."""
    return live_nodes(drop(heap, node, limit=ANY_LIMIT)[2])


def fate(heap, node, target):
    """A certificate that the drop destroys the target, or that it keeps it."""
    log, _, after = drop(heap, node, limit=ANY_LIMIT)
    need_live(heap, target)
    if target in log:
        # All holders of a destroyed node are destroyed, and stand in the log, before it.
        return ("freed", log[:log.index(target) + 1])
    return ("kept", _walk_from(after, target))


def _walk_from(after, target):
    """Follows holders among the kept nodes up to an outside reference or a second visit."""
    walk = [target]
    while after[1][walk[-1]] == 0 and walk[-1] not in walk[:-1]:
        holder, _ = holders(after, walk[-1])[0]
        walk.append(holder)
    return tuple(walk)
