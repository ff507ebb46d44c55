"""Points 3, 4 and 14: arguments stay as they are, results are new, every argument may be given by its name."""

import copy
import inspect
import unittest

from slotfall import (collecting, desk, errors, fatechecker, fates, formatting, heaps, limits, logsets, machine, order,
                      packing, parsing, reach, reachchecker, regular, releasetrees, shapes, shelves, store, tracing,
                      treechecker, trees, wanted, wantedchecker)
from tests.plain_store import loose_heap
from tests.plain_trees import EXAMPLE
from tests.release_trees import BRANCHES
from tests.support import APART, HEAPS, HOLES, RING, SHARED, TREE, StrictCase, lists_of

MODULES = [collecting, fatechecker, fates, formatting, heaps, limits, logsets, machine, order, packing, parsing, reach,
           reachchecker, regular, releasetrees, shapes, shelves, tracing, treechecker, trees, wanted, wantedchecker]

NEEDED = inspect.Parameter.empty
LISTED = [[[1, 2], [2, None], [0], None], [1, 0, 0, 0]]
REGULAR = {"width": 2, "levels": 3, "limit": 2}

# Each call: the function, its arguments in their order, and those behind the star. Some of them raise an error.
CALLS = [
    (heaps.is_heap, {"value": TREE}, {}),
    (heaps.is_heap, {"value": LISTED}, {}),
    (heaps.make_heap, {"slots": LISTED[0], "outside": LISTED[1]}, {}),
    (heaps.make_heap, {"slots": LISTED[0], "outside": [1, 0, 0, 1]}, {}),
    (heaps.live_nodes, {"heap": TREE}, {}),
    (heaps.counts, {"heap": TREE}, {}),
    (heaps.holders, {"heap": TREE, "node": 3}, {}),
    (heaps.holders, {"heap": TREE, "node": [3]}, {}),
    (reach.reachable, {"heap": RING}, {}),
    (reach.reach_certificate, {"heap": RING, "node": 3}, {}),
    (reach.reach_certificate, {"heap": RING, "node": [[3]]}, {}),
    (reachchecker.check_reach, {"heap": RING, "node": 3, "value": ("reached", (0, 1, 2, 3))}, {}),
    (reachchecker.check_reach, {"heap": RING, "node": 3, "value": ["reached", [0, 1, 2, 3]]}, {}),
    (machine.drop, {"heap": TREE, "node": 0}, {"limit": 2}),
    (machine.drop, {"heap": TREE, "node": [0]}, {"limit": 2}),
    (machine.set_slot, {"heap": TREE, "node": 0, "slot": 1, "target": 3}, {"limit": 2}),
    (machine.set_slot, {"heap": TREE, "node": 0, "slot": 1, "target": [3]}, {"limit": 2}),
    (machine.empty_slots, {"heap": RING, "node": 2}, {"limit": 1}),
    (machine.empty_slots, {"heap": RING, "node": [2]}, {"limit": 1}),
    (tracing.trace, {"heap": TREE, "node": 0}, {"limit": 1}),
    (tracing.trace, {"heap": TREE, "node": [0]}, {"limit": 1}),
    (fates.freed, {"heap": TREE, "node": 0}, {}),
    (fates.kept, {"heap": RING, "node": 0}, {}),
    (fates.fate, {"heap": RING, "node": 0, "target": 3}, {}),
    (fates.fate, {"heap": TREE, "node": 0, "target": [3]}, {}),
    (fatechecker.check_fate, {"heap": TREE, "node": 0, "target": 3, "value": ("freed", (0, 1, 3))}, {}),
    (fatechecker.check_fate, {"heap": TREE, "node": 0, "target": 3, "value": ["freed", [[0], 1, 3]]}, {}),
    (order.depths, {"tree": BRANCHES}, {}),
    (order.node_before, {"tree": BRANCHES, "first": 2, "second": 3}, {"limit": 2}),
    (order.node_before, {"tree": BRANCHES, "first": 2, "second": [3]}, {"limit": 2}),
    (order.slot_before, {"tree": BRANCHES, "one": (1, 0), "other": (0, 1)}, {"limit": 3}),
    (order.tree_log, {"tree": BRANCHES}, {"limit": 2}),
    (releasetrees.release_tree, {"heap": SHARED, "node": 0}, {"limit": 1}),
    (releasetrees.release_tree, {"heap": SHARED, "node": [0]}, {"limit": 1}),
    (treechecker.check_tree, {"heap": SHARED, "node": 0, "value": ((), (0, 0), (1, 0))}, {"limit": 1}),
    (treechecker.check_tree, {"heap": SHARED, "node": 0, "value": [[], [0, 0], [1, 0]]}, {"limit": 1}),
    (limits.all_logs, {"heap": TREE, "node": 0}, {}),
    (limits.all_logs, {"heap": TREE, "node": [0]}, {}),
    (limits.limit_groups, {"heap": TREE, "node": 0}, {}),
    (limits.limits_before, {"heap": TREE, "node": 0, "first": 3, "second": 2}, {}),
    (limits.limits_before, {"heap": TREE, "node": 0, "first": [3], "second": [2]}, {}),
    (limits.first_difference, {"one": TREE, "other": (TREE[0], (1, 0, 1, 0)), "node": 0}, {}),
    (limits.first_difference, {"one": TREE, "other": SHARED, "node": [0]}, {}),
    (shelves.shelf_history, {"heap": TREE, "node": 0}, {"limit": 1}),
    (shelves.shelf_history, {"heap": TREE, "node": [0]}, {"limit": 1}),
    (shelves.shelf_peak, {"heap": TREE, "node": 0}, {"limit": 1}),
    (shelves.least_limit, {"heap": TREE, "node": 0}, {"most": 1}),
    (shelves.least_limit, {"heap": TREE, "node": [0]}, {"most": 1}),
    (trees.is_tree, {"value": EXAMPLE}, {}),
    (trees.is_tree, {"value": [[1], []]}, {}),
    (trees.make_tree, {"children": [[1, 2], [], []]}, {}),
    (trees.make_tree, {"children": [[1, 2], [2], []]}, {}),
    (trees.root_of, {"tree": EXAMPLE}, {}),
    (trees.tree_heap, {"tree": EXAMPLE}, {}),
    (trees.log_of, {"tree": EXAMPLE}, {"limit": 2}),
    (shapes.is_shape, {"value": (2, 1, 0, 0)}, {}),
    (shapes.is_shape, {"value": [2, 1, 0, 0]}, {}),
    (shapes.shape_of, {"tree": EXAMPLE}, {}),
    (shapes.count_shapes, {"size": 4}, {}),
    (shapes.shape_index, {"shape": (2, 1, 0, 0)}, {}),
    (shapes.shape_at, {"size": 4, "index": 1}, {}),
    (shapes.shape_at, {"size": 4, "index": [1]}, {}),
    (shapes.tree_with_log, {"shape": (2, 1, 0, 0), "log": (3, 0, 1, 2)}, {"limit": 1}),
    (shapes.trees_with_log, {"log": (0, 1, 2)}, {"limit": 1}),
    (shapes.trees_with_log, {"log": (0, 1, 2, 3, 4, 5, 6, 7, 8)}, {"limit": 1}),
    (logsets.determines, {"limits": [2, 1]}, {"size": 3}),
    (logsets.deciding_limits, {"limits": [3, 2, 1]}, {"size": 8}),
    (logsets.needed_bound, {"size": 8}, {}),
    (logsets.twin_trees, {"limits": [2, 1]}, {"size": 4}),
    (logsets.tree_from_logs, {"logs": [(1, (0, 2, 1, 3)), (3, (0, 1, 3, 2))]}, {}),
    (logsets.tree_from_logs, {"logs": [(1, (0, 2, 1, 3)), [3, [0, 1, 3, 2]]]}, {}),
    (wanted.forced_tree, {"tree": EXAMPLE, "wanted": (1, 0, 2, 3)}, {"limit": 2}),
    (wanted.arrangement, {"tree": EXAMPLE, "wanted": (1, 0, 2, 3)}, {"limit": 2}),
    (wanted.arrangement, {"tree": EXAMPLE, "wanted": (1, 0, 3, 2)}, {"limit": 2}),
    (wantedchecker.check_arrangement, {"tree": EXAMPLE, "wanted": (1, 0, 2, 3), "value": ("swaps", ((1, 0, 1),))},
     {"limit": 2}),
    (wantedchecker.check_arrangement, {"tree": EXAMPLE, "wanted": (1, 0, 3, 2), "value": ("bar", 3, 2)}, {"limit": 2}),
    (wantedchecker.check_arrangement, {"tree": EXAMPLE, "wanted": (1, 0, 2, 3), "value": ["swaps", [[1, 0, 1]]]},
     {"limit": 2}),
    (packing.least_peak, {"tree": ((1, 2), (3, 4, 5), (), (), (), ())}, {"limit": 1}),
    (regular.regular_size, {}, {"width": 2, "levels": 3}),
    (regular.regular_tree, {}, {"width": 2, "levels": 3}),
    (regular.regular_tree, {}, {"width": 6, "levels": 100}),
    (regular.regular_peak, {}, REGULAR),
    (regular.position_of, {"path": (1, 0)}, REGULAR),
    (regular.position_of, {"path": [1, 0]}, REGULAR),
    (regular.path_at, {"position": 6}, REGULAR),
    (regular.path_at, {"position": [6]}, REGULAR),
    (regular.next_path, {"path": (1,)}, REGULAR),
    (regular.next_path, {"path": [[1]]}, REGULAR),
    (collecting.collect, {"heap": APART}, {"limit": 1}),
    (formatting.format_heap, {"heap": HOLES}, {}),
    (formatting.format_tree, {"tree": EXAMPLE}, {}),
    (formatting.format_log, {"log": [0, 12]}, {}),
    (parsing.parse_heap, {"text": "1 1 -\n0\nfree"}, {}),
    (parsing.parse_heap, {"text": "1 1\n0 2"}, {}),
    (parsing.parse_tree, {"text": "2 1\n-\n-"}, {}),
    (parsing.parse_tree, {"text": "1\n0"}, {}),
    (parsing.parse_log, {"text": "0 12 7"}, {}),
    (parsing.parse_log, {"text": "3 1 3"}, {}),
]


def outcome(call):
    """What a call returns, or the kind and the attributes of the error that it raises."""
    try:
        return ("returns", call())
    except (errors.HeapError, errors.MissingError) as error:
        return ("raises", type(error).__name__, sorted(vars(error).items()))


class ConventionsTest(StrictCase):
    def test_by_position_and_by_name(self):
        for function, arguments, named in CALLS:
            first = outcome(lambda: function(*arguments.values(), **named))
            backwards = {name: arguments[name] for name in reversed(arguments)}
            self.check(outcome(lambda: function(**named, **backwards)), first)

    def test_signatures(self):
        for function, arguments, named in CALLS:
            parameters = inspect.signature(function).parameters.values()
            plain = [p.name for p in parameters if p.kind is p.POSITIONAL_OR_KEYWORD and p.default is p.empty]
            behind = [p.name for p in parameters if p.kind is p.KEYWORD_ONLY and p.default is p.empty]
            self.assertEqual((plain, behind), (list(arguments), list(named)))
            self.assertEqual(len(parameters), len(plain) + len(behind))

    def test_the_star(self):
        for function, arguments, named in CALLS:
            if named:
                self.assertRaises(TypeError, function, *arguments.values(), *named.values())
                self.assertRaises(TypeError, function, *arguments.values())

    def test_defined_where_they_are_listed(self):
        for function, _, _ in CALLS:
            self.assertTrue(any(vars(m).get(function.__name__) is function for m in MODULES
                                if m.__name__ == function.__module__))

    def test_arguments_stay(self):
        for function, arguments, named in CALLS:
            before = copy.deepcopy((arguments, named))
            outcome(lambda: function(**arguments, **named))
            for name in arguments:
                self.check(arguments[name], before[0][name])
            self.assertEqual(named, before[1])

    def test_results_are_the_same_and_new(self):
        for function, arguments, named in CALLS:
            call = lambda: function(**arguments, **named)
            first = outcome(call)
            kept = copy.deepcopy(first)
            if first[0] == "returns" and isinstance(first[1], list):
                self.assertIsNot(call(), first[1])
                first[1].append("changed")
            self.check(outcome(call), kept)

    def test_later_calls_leave_results_alone(self):
        results = [outcome(lambda: function(**arguments, **named)) for function, arguments, named in CALLS]
        kept = copy.deepcopy(results)
        for function, arguments, named in CALLS:
            outcome(lambda: function(**arguments, **named))
        self.check(results, kept)

    def test_nothing_is_changed_by_a_call_that_raises(self):
        slots, outside = lists_of(TREE)
        outside[0] = 10
        self.assertRaises(errors.InvalidHeap, heaps.make_heap, slots, outside)
        self.check([slots, outside], [lists_of(TREE[0]), [10, 0, 0, 0]])

    def test_returned_heaps_may_be_passed_in_again(self):
        for heap in HEAPS:
            for node in [v for v in range(len(heap[0])) if heap[1][v]]:
                after = machine.drop(heap, node, limit=1)[2]
                self.check(heaps.make_heap(*after), after)
                self.check(heaps.live_nodes(after), fates.kept(heap, node))

    def test_texts_that_were_returned_may_be_passed_in_again(self):
        for heap in HEAPS:
            self.check(parsing.parse_heap(formatting.format_heap(heap)), heap)
            for node in [v for v in range(len(heap[0])) if heap[1][v]]:
                log, _, after = machine.drop(heap, node, limit=1)
                self.check(parsing.parse_log(formatting.format_log(log)), log)
                self.check(store.Store(after).heap(), after)


# The methods of each class with their parameters; a value stands for a default.
METHODS = {
    store.Store: [("new", {"width": 0}), ("hold", {"node": NEEDED}), ("drop", {"node": NEEDED}),
                  ("put", {"node": NEEDED, "slot": NEEDED, "target": NEEDED}), ("empty_slots", {"node": NEEDED}),
                  ("collect", {}), ("collect_local", {}), ("set_limit", {"limit": NEEDED}), ("undo", {"count": 1}),
                  ("heap", {}), ("current_limit", {}), ("free_numbers", {}), ("candidates", {}), ("history", {}),
                  ("destroyed", {}), ("twin", {})],
    desk.Desk: [("execute", {"command": NEEDED})],
}


class ClassesTest(StrictCase):
    def test_methods(self):
        for owner, methods in METHODS.items():
            for name, expected in methods:
                self.assertIn(name, vars(owner))
                _, *parameters = inspect.signature(vars(owner)[name]).parameters.values()
                self.assertEqual({p.name: p.default for p in parameters}, expected)
                self.assertTrue(all(p.kind is p.POSITIONAL_OR_KEYWORD for p in parameters))
        for name in ("__init__", "__len__", "__eq__", "__str__", "__repr__"):
            self.assertIn(name, vars(store.Store))

    def test_constructors(self):
        parameters = inspect.signature(store.Store).parameters.values()
        self.assertEqual([(p.name, p.default, p.kind is p.KEYWORD_ONLY) for p in parameters],
                         [("heap", ((), ()), False), ("limit", 50, True), ("observer", None, True)])
        parameters = inspect.signature(desk.Desk).parameters.values()
        self.assertEqual([(p.name, p.default, p.kind) for p in parameters],
                         [("text", "", inspect.Parameter.POSITIONAL_OR_KEYWORD)])

    def test_defined_where_they_are_listed(self):
        self.assertEqual((store.Store.__module__, desk.Desk.__module__), ("slotfall.store", "slotfall.desk"))

    def test_arguments_stay_and_results_are_new(self):
        # A store is given heaps, and gives them back, as tuples of tuples: nothing that anyone could change.
        heap = loose_heap(5)
        kept = copy.deepcopy(heap)
        one = store.Store(heap, limit=1)
        told = [one.heap(), one.collect_local(), one.free_numbers(), one.history(), one.destroyed(), one.candidates()]
        kept_told = copy.deepcopy(told)
        one.new(3)
        one.undo(2)
        self.check(heap, kept)
        self.check(told, kept_told)
        self.assertTrue(only_tuples(told[0]) and all(only_tuples(value) for value in told))

    def test_the_same_actions_give_the_same_results(self):
        for seed in range(20):
            one, other = store.Store(loose_heap(seed), limit=2), store.Store(loose_heap(seed), limit=2)
            self.check([one.collect_local(), one.new(2), one.undo(), repr(one)],
                       [other.collect_local(), other.new(2), other.undo(), repr(other)])
            self.check(one == other, True)


def only_tuples(value):
    if isinstance(value, tuple):
        return all(only_tuples(entry) for entry in value)
    return value is None or type(value) in (int, str)


if __name__ == "__main__":
    unittest.main()
