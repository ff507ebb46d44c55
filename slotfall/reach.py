"""Which nodes can be reached from outside references, with certificates."""

from slotfall.heaps import live_nodes
from slotfall.needs import need_live


def reachable(heap):
    """The ascending list of the reachable nodes."""
    return sorted(_sources(heap))


def reach_certificate(heap, node):
    """A path that reaches the node, or a set around it that nothing outside refers to."""
    need_live(heap, node)
    sources = _sources(heap)
    if node in sources:
        return ("reached", _path_to(node, sources))
    # No reachable node holds an unreachable one, so all of these together are closed.
    return ("unreached", tuple([other for other in live_nodes(heap) if other not in sources]))


def _sources(heap):
    """A dict from each reachable node to a reachable holder, or to None if it has an outside reference."""
    slots, outside = heap
    sources = {node: None for node in live_nodes(heap) if outside[node] > 0}
    pending = list(sources)
    while pending:
        holder = pending.pop()
        for held in slots[holder]:
            if held is not None and held not in sources:
                sources[held] = holder
                pending.append(held)
    return sources


def _path_to(node, sources):
    path = [node]
    while sources[path[-1]] is not None:
        path.append(sources[path[-1]])
    return tuple(path[::-1])
