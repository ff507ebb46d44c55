"""Rearranging the children of a tree so that its log becomes a wanted one."""

from slotfall.differing import first_change
from slotfall.trees import log_of


def forced_tree(tree, wanted, *, limit):
    """The tree whose log has any two children of one node in the wanted order."""
    log = log_of(tree, limit=limit)
    return tuple([_forced_row(row, wanted, log) for row in tree])


def arrangement(tree, wanted, *, limit):
    """The fewest swaps that give the tree the wanted log, or two nodes that bar it."""
    forced = forced_tree(tree, wanted, limit=limit)
    log = log_of(forced, limit=limit)
    position = first_change(wanted, log)
    if position is not None:
        # No other rearrangement can have the wanted log, so any two nodes that this one has the other way
        # round are a bar.
        return ("bar", wanted[position], log[position])
    swaps = []
    for node, row in enumerate(tree):
        swaps.extend(_swaps_between(node, row, forced[node]))
    return ("swaps", tuple(swaps))


def _forced_row(row, wanted, log):
    ordered = [node for node in wanted if node in row]
    # Far children come in the log from the last slot to the first one, wherever they stand.
    if [node for node in log if node in row] != list(row):
        ordered = ordered[::-1]
    return tuple(ordered)


def _swaps_between(node, row, target):
    """The fewest swaps that give the node this row of children: each one puts a child where it stays."""
    now = list(row)
    swaps = []
    for slot, child in enumerate(target):
        if now[slot] != child:
            other = now.index(child)
            now[slot], now[other] = now[other], now[slot]
            swaps.append((node, slot, other))
    return swaps
