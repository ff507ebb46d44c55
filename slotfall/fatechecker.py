"""Checks the certificates of fate without performing the drop."""

from slotfall.errors import InvalidCertificate
from slotfall.heaps import holders
from slotfall.kinds import is_labelled
from slotfall.needs import is_live, need_live, need_reference


def check_fate(heap, node, target, value):
    """The string "freed" or "kept", whichever the value is a certificate for."""
    need_reference(heap, node)
    need_live(heap, target)
    if not is_labelled(value, ("freed", "kept")):
        raise InvalidCertificate("shape", -1)
    label, entries = value
    left = list(heap[1])
    left[node] -= 1
    if label == "freed":
        _check_order(heap, left, node, entries)
        if entries[-1] != target:
            raise InvalidCertificate("end", -1)
    else:
        _check_walk(heap, target, entries)
        if left[entries[-1]] == 0 and entries[-1] not in entries[:-1]:
            raise InvalidCertificate("end", -1)
    return label


def _check_order(heap, left, node, order):
    """Each entry has lost all references once the earlier entries are destroyed."""
    for index, entry in enumerate(order):
        earlier = order[:index]
        if not is_live(heap, entry) or entry in earlier:
            raise InvalidCertificate("node", index)
        if index == 0 and entry != node:
            raise InvalidCertificate("start", 0)
        if left[entry] > 0:
            raise InvalidCertificate("outside", index)
        if any([holder not in earlier for holder, _ in holders(heap, entry)]):
            raise InvalidCertificate("held", index)


def _check_walk(heap, target, walk):
    """Each entry but the first holds the one before it."""
    for index, entry in enumerate(walk):
        if not is_live(heap, entry):
            raise InvalidCertificate("node", index)
        if index == 0 and entry != target:
            raise InvalidCertificate("start", 0)
        if index > 0 and walk[index - 1] not in heap[0][entry]:
            raise InvalidCertificate("step", index)
