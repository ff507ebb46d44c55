"""Checks the certificates of reach_certificate without searching for paths."""

from slotfall.errors import InvalidCertificate
from slotfall.heaps import holders
from slotfall.kinds import is_labelled
from slotfall.needs import is_live, need_live


def check_reach(heap, node, value):
    """True for a certificate that the node is reachable, False for one that it is not."""
    need_live(heap, node)
    if not is_labelled(value, ("reached", "unreached")):
        raise InvalidCertificate("shape", -1)
    label, entries = value
    if label == "reached":
        _check_path(heap, node, entries)
        return True
    _check_ascending(heap, entries)
    if node not in entries:
        raise InvalidCertificate("absent", -1)
    _check_closed(heap, entries)
    return False


def _check_path(heap, node, path):
    slots, outside = heap
    for index, entry in enumerate(path):
        if not is_live(heap, entry):
            raise InvalidCertificate("node", index)
        if index == 0:
            if outside[entry] == 0:
                raise InvalidCertificate("start", 0)
        elif entry not in slots[path[index - 1]]:
            raise InvalidCertificate("step", index)
    if path[-1] != node:
        raise InvalidCertificate("end", -1)


def _check_ascending(heap, entries):
    for index, entry in enumerate(entries):
        if not is_live(heap, entry):
            raise InvalidCertificate("node", index)
        if index > 0 and entry <= entries[index - 1]:
            raise InvalidCertificate("node", index)


def _check_closed(heap, entries):
    """Nothing but the entries themselves refers to an entry."""
    for index, entry in enumerate(entries):
        if heap[1][entry] > 0:
            raise InvalidCertificate("outside", index)
        if any([holder not in entries for holder, _ in holders(heap, entry)]):
            raise InvalidCertificate("held", index)
