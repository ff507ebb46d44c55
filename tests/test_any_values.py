"""Points 2, 3 and 14: where any value may stand, the library returns or raises one of its own errors."""

import copy
import itertools
import unittest

from slotfall import (desk, errors, fatechecker, fates, heaps, limits, logsets, machine, order, parsing, reach,
                      reachchecker,
                      regular, releasetrees, shapes, shelves, store, tracing, treechecker, trees, wanted, wantedchecker)
from tests.plain_trees import EXAMPLE
from tests.release_trees import BRANCHES
from tests.support import HOLES, LOOP, SHARED, TREE, StrictCase


def nested(kind, depth):
    value = kind()
    for _ in range(depth - 1):
        value = kind([value])
    return value


ANY_VALUES = [None, True, False, 0, 1, 2, -1, 39, 40, 41, 10 ** 99, -10 ** 99, "", " ", "0", "-", "new", "heap",
              "drop 0", "a b c",
              "0 1\n1 0", "x" * 8000, "9" * 8000, "1 " * 4000, "\n" * 50, (), [], (0,), [0], (1,), (0, 1), [0, 1],
              (1, 0, 0),
              ((0,), (1,)), [[0], [1]], ((1,), ()), [[1], []], ((), ()), ([], []), (((),), (1,)), [[[]], [1]],
              (None, None), [None], ((None,), (0,)),
              (True, False), (True, (0,)), ("reached", (0,)), ("unreached", (0, 1)), ("freed", (0,)), ("kept", (3, 1)),
              ("freed", ([], ())), ("freed", (0, 1, 3)), ("swaps", ()), ("swaps", ((1, 0, 1),)), ("swaps", (None, [])),
              ("bar", 0, 1),
              ("bar", [], ()), ((), (0, 0), (0, 1), (1, 0)), ((), None, None, None), ((), [], (0, 0), ()),
              ((1, (0, 1)), (2, (1, 0))), [(1, (0,)), [2, (0,)]], [(1, [0])], [((), ())], (0,) * 1000, [None] * 1000,
              ((),) * 40, [[]] * 41, ((0,) * 40,) * 24, nested(tuple, 10), nested(list, 10),
              ("swaps", nested(tuple, 9)), ((nested(list, 8),), (1,)), [[1, [2, [3, (4, "5", None)]]], -6]]


def store_with_a_past():
    found = store.Store(HOLES)
    found.new()
    return found


# Each call: the function, its other arguments, and the names of those that may be any values.
FREE = [
    (heaps.is_heap, {}, ["value"]),
    (heaps.make_heap, {}, ["slots", "outside"]),
    (heaps.holders, {"heap": HOLES}, ["node"]),
    (reach.reach_certificate, {"heap": LOOP}, ["node"]),
    (reachchecker.check_reach, {"heap": TREE}, ["node", "value"]),
    (machine.drop, {"heap": TREE, "limit": 2}, ["node"]),
    (machine.set_slot, {"heap": HOLES, "limit": 2, "target": None}, ["node", "slot"]),
    (machine.set_slot, {"heap": HOLES, "limit": 2, "node": 0}, ["slot", "target"]),
    (machine.empty_slots, {"heap": HOLES, "limit": 2}, ["node"]),
    (tracing.trace, {"heap": TREE, "limit": 1}, ["node"]),
    (fates.freed, {"heap": TREE}, ["node"]),
    (fates.kept, {"heap": TREE}, ["node"]),
    (fates.fate, {"heap": TREE}, ["node", "target"]),
    (fatechecker.check_fate, {"heap": TREE, "node": 0}, ["target", "value"]),
    (fatechecker.check_fate, {"heap": TREE, "target": 3}, ["node", "value"]),
    (order.node_before, {"tree": BRANCHES, "limit": 2}, ["first", "second"]),
    (releasetrees.release_tree, {"heap": SHARED, "limit": 2}, ["node"]),
    (treechecker.check_tree, {"heap": TREE, "limit": 2}, ["node", "value"]),
    (limits.all_logs, {"heap": TREE}, ["node"]),
    (limits.limit_groups, {"heap": TREE}, ["node"]),
    (limits.limits_before, {"heap": TREE, "node": 0}, ["first", "second"]),
    (limits.limits_before, {"heap": TREE, "second": 0}, ["node", "first"]),
    (limits.first_difference, {"one": TREE, "other": (TREE[0], (1, 1, 1, 1))}, ["node"]),
    (shelves.shelf_history, {"heap": TREE, "limit": 1}, ["node"]),
    (shelves.shelf_peak, {"heap": TREE, "limit": 1}, ["node"]),
    (shelves.least_limit, {"heap": TREE, "most": 1}, ["node"]),
    (trees.is_tree, {}, ["value"]),
    (trees.make_tree, {}, ["children"]),
    (shapes.is_shape, {}, ["value"]),
    (shapes.shape_at, {"size": 4}, ["index"]),
    (logsets.tree_from_logs, {}, ["logs"]),
    (wantedchecker.check_arrangement, {"tree": EXAMPLE, "wanted": (1, 0, 2, 3), "limit": 2}, ["value"]),
    (wantedchecker.check_arrangement, {"tree": EXAMPLE, "wanted": (0, 1, 2, 3), "limit": 1}, ["value"]),
    (regular.position_of, {"width": 2, "levels": 3, "limit": 2}, ["path"]),
    (regular.path_at, {"width": 2, "levels": 3, "limit": 2}, ["position"]),
    (regular.next_path, {"width": 2, "levels": 3, "limit": 2}, ["path"]),
    (lambda limit: repr(store.Store(TREE, limit=limit)), {}, ["limit"]),
    (lambda width: store.Store(HOLES).new(width), {}, ["width"]),
    (lambda node: store.Store(HOLES).hold(node), {}, ["node"]),
    (lambda node: store.Store(HOLES).drop(node), {}, ["node"]),
    (lambda node, slot: store.Store(HOLES).put(node, slot, None), {}, ["node", "slot"]),
    (lambda slot, target: store.Store(HOLES).put(0, slot, target), {}, ["slot", "target"]),
    (lambda node: store.Store(HOLES).empty_slots(node), {}, ["node"]),
    (lambda limit: store.Store(HOLES).set_limit(limit), {}, ["limit"]),
    (lambda count: store_with_a_past().undo(count), {}, ["count"]),
    (lambda value: store.Store(HOLES) == value, {}, ["value"]),
    (lambda command: desk.Desk("1 1 2\n0 3\n0\n0").execute(command), {}, ["command"]),
]
TEXTS = [value for value in ANY_VALUES if isinstance(value, str)]
TEXTS += ["\n".join(lines) for lines in itertools.product(["0", "1 0", "free", "-", "1", "2 1 -"], repeat=3)]


def outcome(call, named):
    """What the call returns, or the kind and the attributes of its error; any other error passes through."""
    try:
        return ("returns", call(**named))
    except (errors.HeapError, errors.MissingError) as error:
        return ("raises", type(error), vars(error))


class AnyValuesTest(StrictCase):
    def own(self, call, named):
        """The outcome of the call: one of the listed errors, the same each time, and no changed argument."""
        before = copy.deepcopy(named)
        found = outcome(call, named)
        for name in named:
            self.check(named[name], before[name])
        self.assertEqual(outcome(call, copy.deepcopy(named)), found)
        if found[0] == "raises":
            self.assertIn(found[1].__bases__, [(errors.HeapError,), (errors.MissingError,)])
        return found[0]

    def test_every_place(self):
        for call, others, names in FREE:
            found = set()
            for values in itertools.product(ANY_VALUES, repeat=len(names)):
                found.add(self.own(call, {**others, **dict(zip(names, values))}))
            self.assertIn("returns", found, call)

    def test_every_text(self):
        for call in (parsing.parse_heap, parsing.parse_tree, parsing.parse_log,
                     lambda text: desk.Desk(text).execute("heap")):
            self.assertEqual({self.own(call, {"text": text}) for text in TEXTS}, {"returns", "raises"})

    def test_one_list_in_two_places(self):
        row = [1]
        self.check(heaps.make_heap([row, row], row + row), (((1,), (1,)), (1, 1)))
        self.fails(errors.InvalidTree, {"reason": "twice", "node": 1}, trees.make_tree, [row, row])
        self.check(row, [1])

    def test_wanted_logs_stay(self):
        log = (1, 0, 2, 3)
        for call in (wanted.forced_tree, wanted.arrangement):
            self.own(call, {"tree": EXAMPLE, "wanted": log, "limit": 2})


if __name__ == "__main__":
    unittest.main()
