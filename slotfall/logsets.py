"""Which limits determine a tree by its logs, and the tree that they determine."""

from math import lcm

from slotfall.differing import first_change
from slotfall.errors import InvalidLogs
from slotfall.kinds import is_integer, is_limit, is_pair, is_row
from slotfall.trees import MOST_TREE_NODES, log_of

MOST_LOGS = 20


def determines(limits, *, size):
    """True if any two trees of this size have different logs for one of the limits."""
    return size < 3 or (1 in limits and _common_multiple(limits) >= size - 1)


def deciding_limits(limits, *, size):
    """For each depth from 1 to size - 2 the least limit that does not divide it, or None."""
    return tuple([min([limit for limit in limits if depth % limit > 0], default=None)
                  for depth in range(1, size - 1)])


def needed_bound(size):
    """The least number such that the limits from 1 to it determine all trees of this size."""
    bound = 1
    while not determines(list(range(1, bound + 1)), size=size):
        bound += 1
    return bound


def twin_trees(limits, *, size):
    """Two different trees with the same log for each of the limits, or None."""
    if determines(limits, size=size):
        return None
    # One of the trees is a path. In the other one, the node below the upper one of two hangs beside it, in
    # the slot that lets it follow the upper one in every log all the same.
    if 1 in limits:
        # All limits divide the depth of the upper node, so both are far from the node that holds them.
        upper = _common_multiple(limits)
        row = (upper + 1, upper)
    else:
        # Every limit is greater than 1, so both are near to the root, which holds them.
        upper = 1
        row = (upper, upper + 1)
    path = [(node + 1,) for node in range(size - 1)] + [()]
    fork = list(path)
    fork[upper - 1] = row
    fork[upper] = ()
    return (tuple(path), tuple(fork))


def tree_from_logs(logs):
    """The only tree with these logs, or the limit and the position that rule out every tree."""
    _check_logs(logs)
    tree = _forced_tree(logs)
    for limit, log in logs:
        position = first_change(log, log_of(tree, limit=limit))
        if position is not None:
            return ("none", limit, position)
    return ("tree", tree)


def _common_multiple(limits):
    multiple = 1
    for limit in limits:
        multiple = lcm(multiple, limit)
    return multiple


def _check_logs(logs):
    if not is_row(logs) or not 1 <= len(logs) <= MOST_LOGS:
        raise InvalidLogs("shape", -1)
    limits = []
    for index, entry in enumerate(logs):
        if not is_pair(entry) or not is_limit(entry[0]) or not _is_log(entry[1]):
            raise InvalidLogs("entry", index)
        limit, log = entry
        if limit in limits:
            raise InvalidLogs("limit", index)
        if len(log) != len(logs[0][1]):
            raise InvalidLogs("size", index)
        limits.append(limit)
    if not determines(limits, size=len(logs[0][1])):
        raise InvalidLogs("limits", -1)


def _is_log(value):
    """True for a log of a size from 1 to 40."""
    if not isinstance(value, tuple) or not 1 <= len(value) <= MOST_TREE_NODES:
        return False
    return all([is_integer(node) for node in value]) and sorted(value) == list(range(len(value)))


def _forced_tree(logs):
    """The tree that the logs leave no choice about, if there is any with them."""
    guide = _guide(logs)
    places = [_places_in(log) for _, log in logs]
    children = [[] for _ in guide]
    way = [guide[0]]
    for node in guide[1:]:
        # A node of the way that comes later in some log is not above this one.
        steps = 1
        while steps < len(way) and not _is_ever_before(places, node, way[steps]):
            steps += 1
        children[way[steps - 1]].append(node)
        way = way[:steps] + [node]
    return tuple([tuple(row[::-1]) for row in children])


def _guide(logs):
    """The log for limit 1, or the first one if there is none."""
    for limit, log in logs:
        if limit == 1:
            return log
    return logs[0][1]


def _places_in(log):
    return {node: place for place, node in enumerate(log)}


def _is_ever_before(places, node, other):
    """True if the node comes before the other one in at least one of the logs."""
    return any([place[node] < place[other] for place in places])
