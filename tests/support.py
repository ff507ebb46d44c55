"""What several test files share: odd values, heaps, a second machine, and stricter assertions."""

import random
import unittest

# Values of every kind that is no live node of any heap of up to 40 nodes.
NO_NODES = [True, False, -1, 40, 10 ** 99, "0", "", None, [], [0], (), (0,), ((0, 0),), [[0], (None,)]]

# Values of every kind; none of them is a certificate of anything.
NO_CERTIFICATES = [None, True, False, 0, -1, 10 ** 99, "", "reached", "freed", [], (), (0,), [0, 0], (0, 0), (None, (0,)),
                   (True, (0,)), ("", (0,)), ("Kept", (0,)), ("freed ", (0,)), (("kept",), (0,)), (["freed"], (0,)),
                   ((0,), "freed")]

TREE = (((1, 2), (3,), (), ()), (1, 0, 0, 0))
PATH = (((1,), (2,), (3,), ()), (1, 0, 0, 0))
STAR = (((1, 2, 3, 4), (), (), (), ()), (1, 0, 0, 0, 0))
BINARY = (((1, 2), (3, 4), (5, 6), (), (), (), ()), (1, 0, 0, 0, 0, 0, 0))
SHARED = (((1, 2), (2,), ()), (1, 0, 0))
TWICE = (((1, 1), ()), (1, 0))
LOOP = (((0, 1), ()), (1, 0))
RING = (((1,), (2,), (0, 3), ()), (1, 0, 0, 0))
HOLES = (((None, 2, None, 4), None, (None, 5), None, (), ()), (1, 0, 0, 0, 0, 0))
MANY = (((1, 2), (3,), (), ()), (3, 1, 0, 0))
APART = (((1,), (0,), (3,), ()), (0, 0, 1, 0))
EMPTY = ((), ())
LONG_PATH = (tuple([(v + 1,) for v in range(39)] + [()]), (1,) + (0,) * 39)
WIDE_STAR = ((tuple(range(1, 40)) + (None,),) + ((),) * 39, (1,) + (0,) * 39)
HEAPS = [TREE, PATH, STAR, BINARY, SHARED, TWICE, LOOP, RING, HOLES, MANY, APART, EMPTY, LONG_PATH, WIDE_STAR]


def same(one, other):
    """Equal values of equal kinds throughout: neither True for 1 nor a list for a tuple."""
    if type(one) is not type(other):
        return False
    if isinstance(one, (list, tuple)):
        return len(one) == len(other) and all(same(a, b) for a, b in zip(one, other))
    return one == other


class StrictCase(unittest.TestCase):
    """Assertions that compare kinds as well as values."""

    def check(self, found, expected):
        self.assertTrue(same(found, expected), f"{found!r} is not {expected!r}")

    def fails(self, error, attributes, call, *arguments, **named):
        """The call raises this very error with these very attributes."""
        try:
            found = call(*arguments, **named)
        except (ValueError, LookupError) as raised:
            self.assertIs(type(raised), error, f"{raised!r} for {arguments!r}")
            self.assertEqual(sorted(vars(raised)), sorted(attributes))
            for name in attributes:
                self.check(getattr(raised, name), attributes[name])
        else:
            self.fail(f"{found!r} instead of {error.__name__} for {arguments!r} {named!r}")

    def refuses(self, error, reason, index, call, *arguments):
        """As fails, for an error with a reason and an index."""
        self.fails(error, {"reason": reason, "index": index}, call, *arguments)


def lists_of(value):
    """The value with lists in place of all tuples."""
    return [lists_of(entry) for entry in value] if isinstance(value, (list, tuple)) else value


def plain_live(heap):
    return [v for v in range(len(heap[0])) if heap[0][v] is not None]


def plain_counts(heap):
    """Counts by the words of the document, one slot after another."""
    slots, outside = heap
    found = []
    for v in range(len(slots)):
        if slots[v] is None:
            found.append(None)
        else:
            found.append(outside[v] + sum(row.count(v) for row in slots if row is not None))
    return tuple(found)


def plain_reachable(heap):
    """Adds nodes as the document says until nothing changes."""
    slots, outside = heap
    found = {v for v in plain_live(heap) if outside[v] > 0}
    while True:
        more = found | {held for v in found for held in slots[v] if held is not None}
        if more == found:
            return sorted(found)
        found = more


def random_heap(seed, most=8, width=4):
    """A heap that depends on the seed only."""
    chance = random.Random(seed)
    n = chance.randint(1, most)
    free = [v for v in range(n) if chance.random() < 0.15]
    live = [v for v in range(n) if v not in free]
    fill = chance.choice([0.4, 0.7, 0.9])
    slots = [None] * n
    for v in live:
        row = [chance.choice(live) if chance.random() < fill else None for _ in range(chance.randint(0, width))]
        slots[v] = tuple(row)
    outside = [0] * n
    for v in live:
        if chance.random() < 0.2 or plain_counts((slots, outside))[v] == 0:
            outside[v] = chance.choice([1, 1, 1, 2, 9])
    return (tuple(slots), tuple(outside))


class Model:
    """A second machine, after the words of the document: it recurses and counts anew each time."""

    def __init__(self, heap, limit):
        self.slots = [None if row is None else list(row) for row in heap[0]]
        self.outside = list(heap[1])
        self.limit = limit
        self.log, self.shelf, self.events, self.peak = [], [], [], 0

    def count(self, v):
        return self.outside[v] + sum(row.count(v) for row in self.slots if row is not None)

    def release(self, holder, slot, v, depth):
        self.events.append(("release", holder, slot, v, self.count(v)))
        if self.count(v) == 0 and depth < self.limit:
            self.destroy(v, depth)
        elif self.count(v) == 0:
            self.shelf.append(v)
            self.peak = max(self.peak, len(self.shelf))
            self.events.append(("shelve", v, len(self.shelf)))

    def destroy(self, v, depth):
        self.log.append(v)
        self.events.append(("destroy", v, depth))
        for slot in range(len(self.slots[v])):
            held, self.slots[v][slot] = self.slots[v][slot], None
            if held is not None:
                self.release(v, slot, held, depth + 1)
        self.slots[v] = None

    def drop(self, v):
        self.outside[v] -= 1
        self.release(None, None, v, 0)
        while self.shelf:
            taken = self.shelf.pop()
            self.events.append(("take", taken, len(self.shelf)))
            self.destroy(taken, 0)
        return self

    def set_slot(self, v, slot, target):
        held, self.slots[v][slot] = self.slots[v][slot], target
        if held is not None:
            self.outside[held] += 1
            self.drop(held)
        return self

    def empty_slots(self, v):
        self.outside[v] += 1
        for slot in range(len(self.slots[v])):
            self.set_slot(v, slot, None)
        return self.drop(v)

    def result(self):
        rows = tuple(None if row is None else tuple(row) for row in self.slots)
        return (tuple(self.log), self.peak, (rows, tuple(self.outside)))


def droppable(heap):
    """The nodes of the heap that can be dropped."""
    return [v for v in plain_live(heap) if heap[1][v] > 0]
