"""Which nodes can be reached from outside references, with certificates."""

from slotfall.heaps import live_nodes
from slotfall.needs import need_live


def reachable(heap):
    """The ascending list of the reachable nodes."""
    return sorted(_sources(heap))


def reach_certificate(heap, node):
    """A path that reaches the node, or a set around it that nothing outside refers to."""
    need_live(heap, node)
    sources = _sources(heap)
    if node in sources:
        return ("reached", _path_to(node, sources))
    # No reachable node holds an unreachable one, so all of these together are closed.
    return ("unreached", tuple([other for other in live_nodes(heap) if other not in sources]))


def held_from(heap, starts):
    """A dict from each of the starts, and each node that one of them leads to, to a holder; None for a start."""
    sources = {node: None for node in starts}
    pending = list(sources)
    while pending:
        holder = pending.pop()
        for held in heap[0][holder]:
            if held is not None and held not in sources:
                sources[held] = holder
                pending.append(held)
    return sources


def _sources(heap):
    """A dict from each reachable node to a reachable holder, or to None if it has an outside reference."""
    return held_from(heap, [node for node in live_nodes(heap) if heap[1][node] > 0])


def _path_to(node, sources):
    path = [node]
    while sources[path[-1]] is not None:
        path.append(sources[path[-1]])
    return tuple(path[::-1])
