"""A second store, after the words of section 15, on the second machine; heaps and actions for it."""

import random

from tests.support import Model, plain_counts, plain_live, plain_reachable, random_heap

NO_LIMITS = [0, -1, True, False, 10 ** 30 + 1, 10 ** 99, -10 ** 99, "1", "", None, (), (1,), [], [1], ((1,),)]
EMPTY = ((), ())


def loose_heap(seed, most=8):
    """A heap that depends on the seed only, with much that cannot be reached."""
    slots, outside = random_heap(seed, most, 3)
    chance = random.Random(seed)
    outside = list(outside)
    for v in plain_live((slots, outside)):
        if chance.random() < 0.7 and plain_counts((slots, outside))[v] > outside[v]:
            outside[v] = 0
    return (slots, tuple(outside))


def plain_closure(heap, starts):
    """The starts and all that they hold, directly or not, in ascending order."""
    found = set(starts)
    while True:
        more = found | {held for v in found for held in heap[0][v] if held is not None}
        if more == found:
            return sorted(found)
        found = more


def collected(heap, limit, nodes):
    """The machine that has emptied those of the nodes that are not reachable, in ascending order."""
    machine = Model(heap, limit)
    kept = plain_reachable(heap)
    for v in sorted(nodes):
        if v not in kept and machine.slots[v] is not None:
            machine.empty_slots(v)
    return machine


class PlainStore:
    """Its methods return what the method returns, and the log."""

    def __init__(self, heap=EMPTY, limit=50):
        self.heap, self.limit = heap, limit
        self.free = [v for v in range(len(heap[0])) if heap[0][v] is None]
        self.candidates = plain_live(heap)
        self.past = []

    def state(self):
        return (self.heap, self.limit, tuple(self.free), tuple(self.candidates))

    def perform(self, name, *arguments):
        before = self.state()
        result, log = getattr(self, name)(*arguments)
        self.past.append(((name,) + arguments, log, before))
        return result, log

    def undo(self, count):
        names = tuple(action[0] for action, _, _ in self.past[::-1][:count])
        self.heap, self.limit, free, candidates = self.past[-count][2]
        self.free, self.candidates = list(free), list(candidates)
        self.past = self.past[:-count]
        return names

    def history(self):
        return tuple(action for action, _, _ in self.past)

    def destroyed(self):
        return sum((log for _, log, _ in self.past), ())

    def new(self, width):
        slots, outside = [list(row) for row in self.heap]
        if not self.free:
            slots.append(None)
            outside.append(0)
        v = self.free.pop(0) if self.free else len(slots) - 1
        slots[v], outside[v] = (None,) * width, 1
        self.heap = (tuple(slots), tuple(outside))
        return v, ()

    def hold(self, v):
        outside = list(self.heap[1])
        outside[v] += 1
        self.heap = (self.heap[0], tuple(outside))
        return outside[v], ()

    def released(self, machine):
        log, _, self.heap = machine.result()
        spared = {event[3] for event in machine.events if event[0] == "release" and event[4] > 0}
        self.candidates = [v for v in plain_live(self.heap) if v in spared or v in self.candidates]
        for v in log:
            self.free.insert(0, v)
        return log, log

    def drop(self, v):
        return self.released(Model(self.heap, self.limit).drop(v))

    def put(self, v, slot, target):
        return self.released(Model(self.heap, self.limit).set_slot(v, slot, target))

    def empty_slots(self, v):
        return self.released(Model(self.heap, self.limit).empty_slots(v))

    def collect(self):
        found = self.released(collected(self.heap, self.limit, plain_live(self.heap)))
        self.candidates = []
        return found

    def collect_local(self):
        visited = plain_closure(self.heap, self.candidates)
        _, log = self.released(collected(self.heap, self.limit, visited))
        self.candidates = []
        return (log, tuple(visited)), log

    def set_limit(self, limit):
        self.limit = limit
        return None, ()


def random_action(chance, heap):
    """The name and the arguments of an action that raises no error on this heap."""
    live = plain_live(heap)
    choices = [("collect",), ("collect_local",), ("set_limit", chance.choice([1, 2, 3, 5, 50, 10 ** 30]))]
    if len(live) < 12:
        choices += [("new", chance.choice([0, 1, 2, 3]))] * 5
    for v in live:
        if heap[1][v] > 0:
            choices += [("drop", v)] * 2
        if heap[1][v] < 9:
            choices.append(("hold", v))
        if heap[0][v]:
            slot = chance.randrange(len(heap[0][v]))
            choices += [("put", v, slot, chance.choice(live)), ("put", v, slot, chance.choice(live)),
                        ("put", v, slot, None)]
        if chance.random() < 0.3:
            choices.append(("empty_slots", v))
    return chance.choice(choices)
