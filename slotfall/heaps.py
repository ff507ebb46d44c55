"""Heaps: their form, their live nodes, counts and holders."""

from slotfall.errors import InvalidHeap
from slotfall.kinds import is_between, is_pair, is_row
from slotfall.needs import need_live

MOST_NODES = 40
MOST_SLOTS = 40
MOST_OUTSIDE = 9


def is_heap(value):
    """True if the value is a heap."""
    if not is_pair(value):
        return False
    slots, outside = value
    if not isinstance(slots, tuple) or not isinstance(outside, tuple):
        return False
    if any([isinstance(row, list) for row in slots]):
        return False
    return _first_problem(slots, outside) is None


def make_heap(slots, outside):
    """The heap with these slots and outside references, which may be lists."""
    problem = _first_problem(slots, outside)
    if problem is not None:
        reason, node = problem
        raise InvalidHeap(reason, node)
    rows = [None if row is None else tuple(row) for row in slots]
    return (tuple(rows), tuple(outside))


def live_nodes(heap):
    """The ascending list of the live nodes."""
    return [node for node, row in enumerate(heap[0]) if row is not None]


def counts(heap):
    """The count of each node, None for a free node."""
    slots, outside = heap
    uses = slot_uses(slots)
    return tuple([None if row is None else outside[node] + uses[node] for node, row in enumerate(slots)])


def holders(heap, node):
    """The ascending list of the slots that hold the node, as pairs of holder and slot."""
    need_live(heap, node)
    return [(holder, slot) for holder in live_nodes(heap)
            for slot, held in enumerate(heap[0][holder]) if held == node]


def slot_uses(slots):
    """How many slots hold each node."""
    uses = [0] * len(slots)
    for row in slots:
        if row is not None:
            for held in row:
                if held is not None:
                    uses[held] += 1
    return uses


def _first_problem(slots, outside):
    """The reason and the node for which these are not a heap, or None."""
    if not _have_shape(slots, outside):
        return ("shape", -1)
    many = len(slots)
    for node, row in enumerate(slots):
        if not _are_slots(row, many):
            return ("slots", node)
    for node, number in enumerate(outside):
        if not is_between(number, 0, MOST_OUTSIDE):
            return ("outside", node)
    return _count_problem(slots, outside)


def _count_problem(slots, outside):
    """The first free node that is referred to, or else the first live one that is not."""
    uses = slot_uses(slots)
    totals = [outside[node] + uses[node] for node in range(len(slots))]
    for node, row in enumerate(slots):
        if row is None and totals[node] > 0:
            return ("free", node)
    for node, row in enumerate(slots):
        if row is not None and totals[node] == 0:
            return ("count", node)
    return None


def _have_shape(slots, outside):
    return is_row(slots) and is_row(outside) and len(slots) == len(outside) <= MOST_NODES


def _are_slots(row, many):
    if row is None:
        return True
    if not is_row(row) or len(row) > MOST_SLOTS:
        return False
    return all([held is None or is_between(held, 0, many - 1) for held in row])
