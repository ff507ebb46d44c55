"""A store of objects whose numbers are used again in the order of their destruction."""

from slotfall.actions import run_collect, run_drop, run_empty, run_put
from slotfall.errors import Busy, Full, InvalidLimit, InvalidWidth, UndoError
from slotfall.formatting import format_heap
from slotfall.heaps import MOST_NODES, MOST_OUTSIDE, MOST_SLOTS, live_nodes
from slotfall.kinds import is_between, is_limit
from slotfall.needs import need_live
from slotfall.reach import held_from


class Store:
    """A heap that actions change, with its limit, free numbers, candidates and history."""

    def __init__(self, heap=((), ()), *, limit=50, observer=None):
        if not is_limit(limit):
            raise InvalidLimit(limit)
        self._heap = heap
        self._limit = limit
        self._free = tuple([node for node, row in enumerate(heap[0]) if row is None])
        self._candidates = tuple(live_nodes(heap))
        # For each action of the history: the action, its log, and the state before it.
        self._past = []
        self._observer = observer
        self._busy = False

    def new(self, width=0):
        """Creates a node with empty slots and one outside reference; returns its number."""
        self._need_idle()
        if not is_between(width, 0, MOST_SLOTS):
            raise InvalidWidth(width)
        if len(self) >= MOST_NODES:
            raise Full(MOST_NODES)
        slots, outside = self._heap
        node = self._free[0] if self._free else len(slots)
        heap = (_replaced(slots, node, (None,) * width), _replaced(outside, node, 1))
        self._commit(("new", width), (), (heap, self._limit, self._free[1:], self._candidates))
        return node

    def hold(self, node):
        """Adds an outside reference; returns how many the node has now."""
        self._need_idle()
        need_live(self._heap, node)
        slots, outside = self._heap
        many = outside[node] + 1
        if many > MOST_OUTSIDE:
            raise Full(MOST_OUTSIDE)
        heap = (slots, _replaced(outside, node, many))
        self._commit(("hold", node), (), (heap, self._limit, self._free, self._candidates))
        return many

    def drop(self, node):
        """Drops an outside reference; returns the log."""
        self._need_idle()
        return self._release(("drop", node), run_drop(self._heap, node, self._limit))

    def put(self, node, slot, target):
        """Fills or empties a slot; returns the log."""
        self._need_idle()
        return self._release(("put", node, slot, target), run_put(self._heap, node, slot, target, self._limit))

    def empty_slots(self, node):
        """Empties all slots of a node; returns the log."""
        self._need_idle()
        return self._release(("empty_slots", node), run_empty(self._heap, node, self._limit))

    def collect(self):
        """Destroys all nodes that are not reachable; returns the log."""
        self._need_idle()
        work = run_collect(self._heap, live_nodes(self._heap), self._limit)
        return self._take_over(("collect",), work, ())

    def collect_local(self):
        """As collect, but looks only at what the candidates lead to; returns the log and what it looked at."""
        self._need_idle()
        visited = tuple(sorted(held_from(self._heap, self._candidates)))
        work = run_collect(self._heap, visited, self._limit)
        return (self._take_over(("collect_local",), work, ()), visited)

    def set_limit(self, limit):
        """Changes the limit."""
        self._need_idle()
        if not is_limit(limit):
            raise InvalidLimit(limit)
        self._commit(("set_limit", limit), (), (self._heap, limit, self._free, self._candidates))

    def undo(self, count=1):
        """Takes back the last actions; returns their names, the last action first."""
        self._need_idle()
        if not is_between(count, 1, len(self._past)):
            raise UndoError(count)
        undone = self._past[-count:]
        self._past = self._past[:-count]
        self._restore(undone[0][2])
        self._tell("undo", ())
        return tuple([action[0] for action, _, _ in undone[::-1]])

    def heap(self):
        """The heap."""
        return self._heap

    def current_limit(self):
        """The limit."""
        return self._limit

    def free_numbers(self):
        """The free numbers in the order in which they will be used."""
        return self._free

    def candidates(self):
        """The candidates in ascending order."""
        return self._candidates

    def history(self):
        """The actions so far, without those that were undone."""
        return tuple([action for action, _, _ in self._past])

    def destroyed(self):
        """The logs of all actions in the history, one after another."""
        return tuple([node for _, log, _ in self._past for node in log])

    def twin(self):
        """Another store in the same state and with the same history, without an observer."""
        other = Store(self._heap, limit=self._limit)
        other._restore(self._state())
        other._past = list(self._past)
        return other

    def __len__(self):
        return len(live_nodes(self._heap))

    def __eq__(self, other):
        return isinstance(other, Store) and self._state() == other._state() and self.history() == other.history()

    def __str__(self):
        return str(format_heap(self._heap))

    def __repr__(self):
        return f"Store({len(self)} live, limit {self._limit})"

    def _need_idle(self):
        if self._busy:
            raise Busy()

    def _state(self):
        return (self._heap, self._limit, self._free, self._candidates)

    def _restore(self, state):
        self._heap, self._limit, self._free, self._candidates = state

    def _release(self, action, work):
        """As _take_over, with the nodes that lost a reference but not the last one as candidates, too."""
        return self._take_over(action, work, self._candidates + tuple(work.spared()))

    def _take_over(self, action, work, suspects):
        """Commits what was released; the live ones of the suspects are the candidates. Returns the log."""
        log, _, heap = work.result()
        candidates = tuple([node for node in live_nodes(heap) if node in suspects])
        self._commit(action, log, (heap, self._limit, log[::-1] + self._free, candidates))
        return log

    def _commit(self, action, log, state):
        self._past.append((action, log, self._state()))
        self._restore(state)
        self._tell(action[0], log)

    def _tell(self, name, log):
        """Calls the observer, during which no action is accepted."""
        observer = self._observer
        if observer is None:
            return
        self._busy = True
        try:
            observer(name, log)
        finally:
            self._busy = False


def _replaced(row, place, entry):
    """The tuple with another entry at this place, which may be the first one behind its end."""
    return row[:place] + (entry,) + row[place + 1:]
