"""The one place where references are removed; all else is read off the events."""

from slotfall.heaps import counts


class Releasing:
    """A copy of a heap that changes, with the events of all its drops so far."""

    def __init__(self, heap, limit):
        self.slots = [None if row is None else list(row) for row in heap[0]]
        self.outside = list(heap[1])
        self.references = list(counts(heap))
        self.limit = limit
        self.emptied = []
        self.shelf = []
        self.events = []

    def drop(self, node):
        """Removes an outside reference and destroys what this leaves without any."""
        self.outside[node] -= 1
        self.emptied.append((None, None, node, 0))
        self._release_all()
        while self.shelf:
            taken = self.shelf.pop()
            self.events.append(("take", taken, len(self.shelf)))
            self._destroy(taken, 0)
            self._release_all()

    def put(self, node, slot, target):
        """Gives a slot its new content and releases what it held."""
        held = self.slots[node][slot]
        self.slots[node][slot] = target
        if target is not None:
            self.references[target] += 1
        if held is not None:
            # The slot's reference to the held node lives on as an outside one until the drop.
            self.outside[held] += 1
            self.drop(held)

    def empty(self, node):
        """Empties all slots of a node, which an outside reference keeps meanwhile."""
        self.outside[node] += 1
        self.references[node] += 1
        for slot in range(len(self.slots[node])):
            self.put(node, slot, None)
        self.drop(node)

    def result(self):
        """The log, the peak, and the heap as it is now."""
        log = [event[1] for event in self.events if event[0] == "destroy"]
        peak = max([event[2] for event in self.events if event[0] == "shelve"], default=0)
        rows = [None if row is None else tuple(row) for row in self.slots]
        return (tuple(log), peak, (tuple(rows), tuple(self.outside)))

    def spared(self):
        """The nodes that lost a reference but not the last one, each as often as that happened."""
        return [event[3] for event in self.events if event[0] == "release" and event[4] > 0]

    def _release_all(self):
        while self.emptied:
            holder, slot, node, depth = self.emptied.pop()
            self._release(holder, slot, node, depth)

    def _release(self, holder, slot, node, depth):
        self.references[node] -= 1
        left = self.references[node]
        self.events.append(("release", holder, slot, node, left))
        if left > 0:
            return
        if depth < self.limit:
            self._destroy(node, depth)
        else:
            self.shelf.append(node)
            self.events.append(("shelve", node, len(self.shelf)))

    def _destroy(self, node, depth):
        self.events.append(("destroy", node, depth))
        row = self.slots[node]
        self.slots[node] = None
        # Releases are taken from the end: the first slot must be the last one there, and what
        # its node releases comes on top of the later slots, as it would in a recursion.
        for slot in range(len(row) - 1, -1, -1):
            if row[slot] is not None:
                self.emptied.append((node, slot, row[slot], depth + 1))
