"""The commands of a desk: each takes the store and the arguments, and returns the output."""

from slotfall.fates import fate
from slotfall.formatting import format_heap, format_log
from slotfall.heaps import live_nodes
from slotfall.kinds import is_between, is_limit
from slotfall.limits import all_logs, limits_before
from slotfall.logsets import determines
from slotfall.machine import drop
from slotfall.reach import reachable
from slotfall.regular import path_at, position_of
from slotfall.shelves import least_limit, shelf_history
from slotfall.trees import MOST_TREE_NODES

MOST_WIDTH = 6
MOST_LEVELS = 100
MOST_LIMITS = 20


def fits(name, arguments):
    """True if the command of this name takes these arguments."""
    least, most, _ = COMMANDS[name]
    if len(arguments) < least or (most is not None and len(arguments) > most):
        return False
    if name in ("position", "path"):
        width, levels, limit = arguments[:3]
        return is_between(width, 1, MOST_WIDTH) and is_between(levels, 1, MOST_LEVELS) and is_limit(limit)
    if name == "determines":
        limits = arguments[1:]
        if not is_between(arguments[0], 1, MOST_TREE_NODES) or len(limits) > MOST_LIMITS:
            return False
        return all([is_limit(limit) for limit in limits])
    return True


def _new(store, *width):
    return str(store.new(*width))


def _hold(store, node):
    return str(store.hold(node))


def _drop(store, node):
    return format_log(store.drop(node))


def _put(store, node, slot, target):
    return format_log(store.put(node, slot, target))


def _empty(store, node):
    return format_log(store.empty_slots(node))


def _collect(store):
    return format_log(store.collect())


def _local(store):
    return format_log(store.collect_local()[0])


def _limit(store, limit):
    store.set_limit(limit)
    return "ok"


def _undo(store, *count):
    return " ".join(store.undo(*count))


def _heap(store):
    return format_heap(store.heap()).replace("\n", " | ")


def _live(store):
    return format_log(live_nodes(store.heap()))


def _reachable(store):
    return format_log(reachable(store.heap()))


def _free(store):
    return format_log(store.free_numbers())


def _candidates(store):
    return format_log(store.candidates())


def _destroyed(store):
    return format_log(store.destroyed())


def _log(store, node):
    return format_log(drop(store.heap(), node, limit=store.current_limit())[0])


def _logs(store, node):
    return " | ".join([format_log(log) for log in all_logs(store.heap(), node)])


def _before(store, node, first, second):
    return format_log(limits_before(store.heap(), node, first, second))


def _shelf(store, node):
    return format_log(shelf_history(store.heap(), node, limit=store.current_limit()))


def _least(store, node, most):
    return str(least_limit(store.heap(), node, most=most))


def _fate(store, node, target):
    return fate(store.heap(), node, target)[0]


def _position(_, width, levels, limit, *path):
    return str(position_of(path, width=width, levels=levels, limit=limit))


def _path(_, width, levels, limit, position):
    return format_log(path_at(position, width=width, levels=levels, limit=limit))


def _determines(_, size, *limits):
    return "yes" if determines(limits, size=size) else "no"


# For each name the least and the greatest number of arguments (None for no bound), and what it does.
COMMANDS = {
    "new": (0, 1, _new),
    "hold": (1, 1, _hold),
    "drop": (1, 1, _drop),
    "put": (3, 3, _put),
    "empty": (1, 1, _empty),
    "collect": (0, 0, _collect),
    "local": (0, 0, _local),
    "limit": (1, 1, _limit),
    "undo": (0, 1, _undo),
    "heap": (0, 0, _heap),
    "live": (0, 0, _live),
    "reachable": (0, 0, _reachable),
    "free": (0, 0, _free),
    "candidates": (0, 0, _candidates),
    "destroyed": (0, 0, _destroyed),
    "log": (1, 1, _log),
    "logs": (1, 1, _logs),
    "before": (3, 3, _before),
    "shelf": (1, 1, _shelf),
    "least": (2, 2, _least),
    "fate": (2, 2, _fate),
    "position": (3, None, _position),
    "path": (4, 4, _path),
    "determines": (2, None, _determines),
}
