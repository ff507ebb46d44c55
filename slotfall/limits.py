"""What the limit changes in the log of a drop."""

from slotfall.differing import first_change
from slotfall.errors import Mismatch
from slotfall.machine import drop
from slotfall.needs import need_freed, need_reference


def all_logs(heap, node):
    """The logs of the drop with the limits from 1 to the number of nodes, in this order."""
    # Without any node there is no limit to try, and no drop that would raise the error.
    need_reference(heap, node)
    return [drop(heap, node, limit=limit)[0] for limit in range(1, len(heap[0]) + 1)]


def limit_groups(heap, node):
    """The limits in ascending tuples, those with equal logs in the same one."""
    groups = {}
    for limit, log in enumerate(all_logs(heap, node), start=1):
        groups.setdefault(log, []).append(limit)
    return [tuple(group) for group in groups.values()]


def limits_before(heap, node, first, second):
    """The ascending list of the limits for which the first node is destroyed before the second one."""
    logs = all_logs(heap, node)
    # Every limit destroys the same nodes, so any of the logs tells which.
    need_freed(logs[0], first)
    need_freed(logs[0], second)
    return [limit for limit, log in enumerate(logs, start=1) if log.index(first) < log.index(second)]


def first_difference(one, other, node):
    """The least limit for which the logs of the two heaps differ, with the first position, or None."""
    if len(one[0]) != len(other[0]):
        raise Mismatch("count")
    ours = all_logs(one, node)
    theirs = all_logs(other, node)
    # Greater limits than these give the same log as the last one.
    for limit, (our_log, their_log) in enumerate(zip(ours, theirs), start=1):
        position = first_change(our_log, their_log)
        if position is not None:
            return (limit, position)
    return None
