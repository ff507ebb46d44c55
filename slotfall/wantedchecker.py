"""Checks what is said about giving a tree a wanted log."""

from slotfall.errors import InvalidCertificate
from slotfall.kinds import is_between, is_pair
from slotfall.trees import log_of
from slotfall.wanted import forced_tree


def check_arrangement(tree, wanted, value, *, limit):
    """The number of swaps for the fewest swaps that give the tree the wanted log, None for a bar."""
    if is_pair(value) and value[0] == "swaps" and isinstance(value[1], tuple):
        _check_swaps(tree, wanted, value[1], limit)
        return len(value[1])
    if isinstance(value, tuple) and len(value) == 3 and value[0] == "bar":
        _check_bar(tree, wanted, value, limit)
        return None
    raise InvalidCertificate("shape", -1)


def _check_swaps(tree, wanted, swaps, limit):
    for index, entry in enumerate(swaps):
        if not _is_swap(tree, entry):
            raise InvalidCertificate("swap", index)
    swapped = _swapped(tree, swaps)
    if log_of(swapped, limit=limit) != wanted:
        raise InvalidCertificate("log", -1)
    # Only one rearrangement has the wanted log, so fewer swaps would have to lead to the same one.
    if len(swaps) > sum([_fewest_swaps(row, swapped[node]) for node, row in enumerate(tree)]):
        raise InvalidCertificate("many", -1)


def _check_bar(tree, wanted, value, limit):
    for index in (1, 2):
        if not is_between(value[index], 0, len(tree) - 1):
            raise InvalidCertificate("node", index)
    first, second = value[1:]
    if wanted.index(first) >= wanted.index(second):
        raise InvalidCertificate("order", -1)
    # The three cases are those in which the forced tree has the nodes the other way round: a node above
    # another one comes first in every rearrangement, and so does one that is near while the other is far.
    log = log_of(forced_tree(tree, wanted, limit=limit), limit=limit)
    if log.index(first) < log.index(second):
        raise InvalidCertificate("possible", -1)


def _is_swap(tree, entry):
    if not isinstance(entry, tuple) or len(entry) != 3 or not is_between(entry[0], 0, len(tree) - 1):
        return False
    node, slot, other = entry
    return is_between(other, 0, len(tree[node]) - 1) and is_between(slot, 0, other - 1)


def _swapped(tree, swaps):
    """The tree after the swaps."""
    rows = [list(row) for row in tree]
    for node, slot, other in swaps:
        row = rows[node]
        row[slot], row[other] = row[other], row[slot]
    return tuple([tuple(row) for row in rows])


def _fewest_swaps(row, target):
    """How many swaps turn one row into the other: in a circle of children, one less than it has."""
    swaps = len(row)
    left = list(target)
    while left:
        swaps -= 1
        child = left[0]
        while child in left:
            left.remove(child)
            child = row[target.index(child)]
    return swaps
