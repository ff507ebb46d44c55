"""Points 67 to 77: the store and its observer."""

import random
import unittest

from slotfall.collecting import collect
from slotfall.errors import Busy, Full, InvalidLimit, InvalidWidth, NoNode, NoReference, NoSlot, UndoError
from slotfall.formatting import format_heap
from slotfall.heaps import is_heap
from slotfall.machine import drop, empty_slots, set_slot
from slotfall.store import Store
from tests.plain_store import EMPTY, NO_LIMITS, PlainStore, loose_heap, plain_closure, random_action
from tests.support import (APART, BINARY, HEAPS, HOLES, LOOP, MANY, NO_NODES, PATH, RING, SHARED, STAR, TREE, TWICE,
                           StrictCase, plain_live, plain_reachable, random_heap)

GREAT = 10 ** 30
NO_WIDTHS = [-1, 41, True, False, 10 ** 99, -10 ** 99, "0", "", None, (), (0,), [], [1], ((1,), 2)]
FORTY = (((),) * 40, (1,) * 40)
FULL = (((1,), ()) + ((),) * 38, (9, 8) + (9,) * 38)


def state_of(store):
    """All that a store tells of itself."""
    return (store.heap(), store.current_limit(), store.free_numbers(), store.candidates(), store.history(),
            store.destroyed(), len(store), str(store), repr(store), bool(store))


class StoreCase(StrictCase):
    def agrees(self, store, plain):
        live = len(plain_live(plain.heap))
        self.check(state_of(store), plain.state() + (plain.history(), plain.destroyed(), live, format_heap(plain.heap),
                                                     f"Store({live} live, limit {plain.limit})", live > 0))

    def refused(self, store, error, attributes, name, *arguments):
        """The method raises the error and changes nothing."""
        before = state_of(store)
        self.fails(error, attributes, getattr(store, name), *arguments)
        self.check(state_of(store), before)

    def run_beside(self, store, plain, seed, steps):
        """Random actions on both; they agree after each."""
        chance = random.Random(seed)
        for _ in range(steps):
            action = random_action(chance, plain.heap)
            result, _ = plain.perform(*action)
            self.check(getattr(store, action[0])(*action[1:]), result)
            self.agrees(store, plain)


class NewStoreTest(StoreCase):
    def test_example(self):
        self.fails(InvalidLimit, {"value": 0}, Store, limit=0)

    def test_a_new_store(self):
        self.check(state_of(Store()), (((), ()), 50, (), (), (), (), 0, "", "Store(0 live, limit 50)", False))
        for heap in HEAPS + [FORTY, ((None,) * 40, (0,) * 40)] + [random_heap(seed) for seed in range(50)]:
            for limit in (1, 2, 50, GREAT):
                self.agrees(Store(heap=heap, limit=limit), PlainStore(heap, limit))
            self.agrees(Store(heap), PlainStore(heap, 50))
        store = Store(HOLES)
        self.check([store.free_numbers(), store.candidates()], [(1, 3), (0, 2, 4, 5)])
        self.check(state_of(Store(HOLES, limit=7, observer=None)), state_of(Store(limit=7, heap=HOLES)))

    def test_invalid_limits(self):
        for limit in NO_LIMITS:
            self.fails(InvalidLimit, {"value": limit}, Store, limit=limit)
            self.fails(InvalidLimit, {"value": limit}, Store, TREE, limit=limit, observer=None)
        self.assertRaises(TypeError, Store, TREE, 50)

    def test_stores_share_nothing(self):
        one, other = Store(), Store()
        one.new()
        self.check(state_of(other), state_of(Store()))


class CandidatesTest(StoreCase):
    def candidates(self, heap, expected, name, *arguments):
        """The candidates after an action of a store that had none."""
        for limit in (1, 2, GREAT):
            store = Store(heap, limit=limit)
            store.collect()
            self.check([store.candidates(), store.heap()], [(), heap])
            getattr(store, name)(*arguments)
            self.check(store.candidates(), expected)

    def test_drop(self):
        self.candidates(MANY, (0,), "drop", 0)
        self.candidates(LOOP, (0,), "drop", 0)
        self.candidates(RING, (0,), "drop", 0)
        # Node 3 loses two references, 2 all of them.
        self.candidates((((1, 3), (2, 3), (), ()), (1, 0, 0, 1)), (3,), "drop", 0)
        self.candidates((((1, 1, 2), (2, 3), (1,), ()), (1, 0, 0, 0)), (1, 2), "drop", 0)

    def test_destroyed_nodes_are_none(self):
        # Each of them loses a reference before it loses the last one.
        self.candidates(TWICE, (), "drop", 0)
        self.candidates(SHARED, (), "drop", 0)
        self.candidates(BINARY, (), "drop", 0)

    def test_put(self):
        # The count is that with the new content of the slot.
        self.candidates((((1,), ()), (1, 1)), (1,), "put", 0, 0, None)
        self.candidates((((1,), ()), (1, 1)), (1,), "put", 0, 0, 0)
        self.candidates((((1,), ()), (1, 0)), (1,), "put", 0, 0, 1)
        self.candidates((((1, 1), ()), (1, 0)), (1,), "put", 0, 0, None)
        self.candidates((((1,), ()), (1, 0)), (), "put", 0, 0, None)
        self.candidates((((1,), ()), (1, 0)), (), "put", 0, 0, 0)
        self.candidates((((0,),), (1,)), (0,), "put", 0, 0, None)
        self.candidates((((0,),), (1,)), (0,), "put", 0, 0, 0)
        # What was destroyed had held 2.
        self.candidates((((1,), (2,), ()), (1, 0, 1)), (2,), "put", 0, 0, None)

    def test_empty_slots(self):
        # Even without slots the reference that was added for a time is removed again.
        self.candidates(FORTY, (7,), "empty_slots", 7)
        self.candidates((((None,),), (1,)), (0,), "empty_slots", 0)
        self.candidates(TREE, (0,), "empty_slots", 0)
        self.candidates(RING, (0, 1), "empty_slots", 1)
        # Node 0 loses the reference from 1 and then the one that was added.
        self.candidates((((1,), (0, 2), ()), (1, 0, 2)), (0, 2), "empty_slots", 0)
        self.candidates((((0, 0), (0,)), (1, 2)), (0,), "empty_slots", 0)

    def test_what_makes_no_candidate(self):
        self.candidates(TREE, (), "hold", 3)
        self.candidates(TREE, (), "new", 3)
        self.candidates(TREE, (), "set_limit", 3)
        self.candidates(HOLES, (), "put", 0, 0, 5)
        self.candidates(HOLES, (), "put", 0, 0, None)
        self.candidates(TREE, (), "drop", 0)

    def test_candidates_stay(self):
        store = Store(APART)
        self.check(store.candidates(), (0, 1, 2, 3))
        store.new()
        self.check(store.candidates(), (0, 1, 2, 3))
        store.drop(2)
        self.check(store.candidates(), (0, 1))
        self.check([store.new(), store.new(), store.candidates()], [3, 2, (0, 1)])
        self.check([store.collect(), store.candidates()], [(1, 0), ()])


class NewTest(StoreCase):
    def test_example(self):
        store = Store()
        self.check([store.new(2), store.new(), store.new(width=1), store.heap()],
                   [0, 1, 2, (((None, None), (), (None,)), (1, 1, 1))])

    def test_widths(self):
        for width in range(41):
            store = Store(HOLES)
            self.check([store.new(width), store.new(width=width), store.new()], [1, 3, 6])
            self.check([store.heap()[0][v] for v in (1, 3, 6)], [(None,) * width, (None,) * width, ()])
            self.check([store.heap()[1], store.free_numbers()], [(1, 1, 0, 1, 0, 0, 1), ()])
            self.check(store.history(), (("new", width), ("new", width), ("new", 0)))
            self.check(is_heap(store.heap()), True)

    def test_numbers_in_the_order_of_destruction(self):
        store = Store(HOLES, limit=1)
        self.check([store.drop(0), store.free_numbers()], [(0, 4, 2, 5), (5, 2, 4, 0, 1, 3)])
        self.check([store.new() for _ in range(8)], [5, 2, 4, 0, 1, 3, 6, 7])
        store = Store(HOLES)
        self.check([store.drop(0), store.free_numbers()], [(0, 2, 5, 4), (4, 5, 2, 0, 1, 3)])
        self.check([store.new(), store.drop(4), store.free_numbers()], [4, (4,), (4, 5, 2, 0, 1, 3)])

    def test_invalid_widths(self):
        for heap in (EMPTY, TREE, FORTY, FULL):
            for width in NO_WIDTHS:
                self.refused(Store(heap), InvalidWidth, {"value": width}, "new", width)

    def test_forty_live_nodes(self):
        for heap in (FORTY, FULL):
            for width in (0, 1, 40):
                self.refused(Store(heap), Full, {"most": 40}, "new", width)
        store = Store()
        self.check([store.new(40) for _ in range(40)], list(range(40)))
        self.refused(store, Full, {"most": 40}, "new")
        self.check([store.drop(17), store.new(3)], [(17,), 17])
        self.refused(store, Full, {"most": 40}, "new", 40)
        self.check(is_heap(store.heap()), True)


class HoldTest(StoreCase):
    def test_example(self):
        store = Store((((),), (1,)))
        self.check([store.hold(0), store.hold(0)], [2, 3])

    def test_up_to_nine(self):
        store = Store(TREE)
        self.check([store.hold(node=3) for _ in range(9)], list(range(1, 10)))
        self.check([store.heap(), store.history()], [(TREE[0], (1, 0, 0, 9)), (("hold", 3),) * 9])
        self.refused(store, Full, {"most": 9}, "hold", 3)
        self.check([store.drop(3), store.hold(3)], [(), 9])

    def test_no_node(self):
        for node in NO_NODES + [1, 3, 6]:
            self.refused(Store(HOLES), NoNode, {"node": node}, "hold", node)
            self.refused(Store(), NoNode, {"node": node}, "hold", node)
        for node in NO_NODES:
            self.refused(Store(FULL), NoNode, {"node": node}, "hold", node)
        self.refused(Store(FULL), Full, {"most": 9}, "hold", 0)
        self.check(Store(FULL).hold(1), 9)


class ReleaseTest(StoreCase):
    def test_examples(self):
        store = Store((((1, 2), (3,), (), ()), (1, 0, 0, 0)), limit=1)
        self.check([store.drop(0), store.free_numbers(), store.new(), store.new(), store.free_numbers()],
                   [(0, 2, 1, 3), (3, 1, 2, 0), 3, 1, (2, 0)])
        store = Store((((1,), (0,)), (0, 1)))
        self.check([store.put(1, 0, None), store.drop(1), store.heap()], [(0,), (1,), ((None, None), (0, 0))])

    def against(self, heap, function, name, *arguments):
        for limit in (1, 2, 3, 50, GREAT):
            store = Store(heap, limit=limit)
            log, _, after = function(heap, *arguments, limit=limit)
            self.check(getattr(store, name)(*arguments), log)
            self.check([store.heap(), store.history(), store.destroyed()], [after, ((name,) + arguments,), log])
            was_free = tuple(v for v in range(len(heap[0])) if heap[0][v] is None)
            self.check(store.free_numbers(), log[::-1] + was_free)

    def test_against_the_functions(self):
        for heap in HEAPS + [random_heap(seed) for seed in range(60)] + [loose_heap(seed) for seed in range(60)]:
            self.against(heap, collect, "collect")
            for v in plain_live(heap):
                self.against(heap, empty_slots, "empty_slots", v)
                if heap[1][v] > 0:
                    self.against(heap, drop, "drop", v)
                for slot in range(min(3, len(heap[0][v]))):
                    for target in [None, v, plain_live(heap)[-1], heap[0][v][slot]]:
                        self.against(heap, set_slot, "put", v, slot, target)

    def test_by_name(self):
        store = Store(TREE)
        self.check([store.put(node=0, slot=0, target=0), store.empty_slots(node=0), store.drop(node=0)],
                   [(1, 3), (2,), (0,)])

    def test_free_numbers_after_several_actions(self):
        store = Store(HOLES, limit=1)
        self.check([store.put(0, 1, None), store.free_numbers()], [(2, 5), (5, 2, 1, 3)])
        self.check([store.new(1), store.free_numbers()], [5, (2, 1, 3)])
        self.check([store.put(5, 0, 5), store.drop(5), store.free_numbers()], [(), (), (2, 1, 3)])
        self.check([store.drop(0), store.free_numbers()], [(0, 4), (4, 0, 2, 1, 3)])
        self.check([store.collect(), store.free_numbers()], [(5,), (5, 4, 0, 2, 1, 3)])
        self.check([store.new(), store.new(), store.new(), store.free_numbers()], [5, 4, 0, (2, 1, 3)])
        self.check([store.empty_slots(4), store.drop(5), store.free_numbers()], [(), (5,), (5, 2, 1, 3)])

    def test_errors(self):
        for node in NO_NODES + [1, 3, 6]:
            self.refused(Store(HOLES), NoNode, {"node": node}, "drop", node)
            self.refused(Store(HOLES), NoNode, {"node": node}, "empty_slots", node)
            self.refused(Store(HOLES), NoNode, {"node": node}, "put", node, 0, None)
            self.refused(Store(HOLES), NoNode, {"node": node}, "put", node, node, node)
            if node is not None:
                self.refused(Store(HOLES), NoNode, {"node": node}, "put", 0, 0, node)
        for node in (2, 4, 5):
            self.refused(Store(HOLES), NoReference, {"node": node}, "drop", node)
        for slot in NO_NODES + [4, 5]:
            for target in (None, 0, 1, [0], True):
                self.refused(Store(HOLES), NoSlot, {"slot": slot}, "put", 0, slot, target)
        self.refused(Store(HOLES), NoSlot, {"slot": 0}, "put", 5, 0, 0)

    def test_nothing_after_an_error(self):
        store = Store(TREE)
        made = [store.new(), store.hold(0)]
        self.check(made, [4, 2])
        for name, arguments in [("drop", (1,)), ("drop", (9,)), ("put", (0, 2, 0)), ("hold", (None,)), ("new", (41,)),
                                ("set_limit", (0,)), ("undo", (3,)), ("empty_slots", ("0",))]:
            before = state_of(store)
            self.assertRaises((ValueError, LookupError), getattr(store, name), *arguments)
            self.check(state_of(store), before)


class CollectTest(StoreCase):
    def test_example(self):
        store = Store((((1,), (0,), ()), (1, 0, 1)))
        self.check([store.collect(), store.candidates(), store.drop(0), store.candidates(), store.collect_local(),
                    store.candidates()], [(), (), (), (0,), ((1, 0), (0, 1)), ()])

    def test_new_stores(self):
        # All live nodes are candidates, and so visited.
        for heap in HEAPS + [loose_heap(seed) for seed in range(100)] + [loose_heap(seed, 40) for seed in range(20)]:
            for limit in (1, 2, GREAT):
                one, other = Store(heap, limit=limit), Store(heap, limit=limit)
                log = one.collect()
                self.check(other.collect_local(), (log, tuple(plain_live(heap))))
                self.check([one.candidates(), other.candidates()], [(), ()])
                self.check([one.heap(), one.free_numbers()], [other.heap(), other.free_numbers()])
                self.check([one.history(), other.history()], [(("collect",),), (("collect_local",),)])

    def test_no_candidates(self):
        store = Store(RING)
        self.check([store.collect(), store.collect_local(), store.collect_local()], [(), ((), ()), ((), ())])
        store = Store()
        self.check([store.collect(), store.collect_local()], [(), ((), ())])

    def test_only_what_the_candidates_lead_to(self):
        # Two rings, each with an outside reference, and a node that holds both.
        store = Store((((1,), (0,), (3,), (2, 4), (), (0, 2)), (1, 0, 1, 0, 0, 1)))
        self.check([store.collect(), store.drop(2), store.candidates()], [(), (), (2,)])
        self.check(store.collect_local(), ((), (2, 3, 4)))
        self.check([store.drop(5), store.candidates()], [(5,), (0, 2)])
        self.check(store.collect_local(), ((3, 4, 2), (0, 1, 2, 3, 4)))
        self.check(store.heap(), (((1,), (0,), None, None, None, None), (1, 0, 0, 0, 0, 0)))

    def test_the_same_log_in_any_state(self):
        destroyed = 0
        for seed in range(150):
            store, chance = Store(loose_heap(seed), limit=seed % 4 + 1), random.Random(seed)
            for _ in range(25):
                action = random_action(chance, store.heap())
                getattr(store, action[0])(*action[1:])
                one, other = store.twin(), store.twin()
                visited = plain_closure(store.heap(), store.candidates())
                lost = set(plain_live(store.heap())) - set(plain_reachable(store.heap()))
                self.assertLessEqual(lost, set(visited))
                log = one.collect()
                self.check(other.collect_local(), (log, tuple(visited)))
                self.check([one.heap(), one.free_numbers()], [other.heap(), other.free_numbers()])
                destroyed += len(log)
        self.assertGreater(destroyed, 500)


class SetLimitTest(StoreCase):
    def test_example(self):
        store = Store()
        self.check([store.set_limit(3), store.current_limit()], [None, 3])

    def test_limits(self):
        store = Store(TREE, limit=1)
        for limit in (1, 1, 2, GREAT, 50):
            self.check([store.set_limit(limit=limit), store.current_limit()], [None, limit])
        self.check(store.history(), tuple(("set_limit", limit) for limit in (1, 1, 2, GREAT, 50)))
        self.check([store.heap(), store.destroyed(), store.candidates()], [TREE, (), (0, 1, 2, 3)])

    def test_the_next_action_has_the_limit(self):
        for limit, log in [(1, (0, 2, 1, 3)), (2, (0, 1, 2, 3)), (3, (0, 1, 3, 2)), (GREAT, (0, 1, 3, 2))]:
            store = Store(TREE)
            store.set_limit(limit)
            self.check(store.drop(0), log)

    def test_invalid_limits(self):
        for limit in NO_LIMITS:
            self.refused(Store(TREE, limit=7), InvalidLimit, {"value": limit}, "set_limit", limit)


class UndoTest(StoreCase):
    def test_example(self):
        store = Store()
        made = [store.new(), store.new(), store.drop(0)]
        self.check(made, [0, 1, (0,)])
        self.check([store.undo(2), store.heap(), store.new()], [("drop", "new"), (((),), (1,)), 1])

    def test_each_action(self):
        for heap, name, arguments in [(HOLES, "new", ()), (HOLES, "new", (3,)), (TREE, "hold", (3,)),
                                      (TREE, "drop", (0,)),
                                      (RING, "drop", (0,)), (TREE, "put", (0, 1, 3)), (TREE, "put", (0, 1, None)),
                                      (SHARED, "empty_slots", (1,)), (APART, "collect", ()),
                                      (APART, "collect_local", ()),
                                      (TREE, "set_limit", (1,)), (TREE, "set_limit", (50,))]:
            store = Store(heap)
            before = state_of(store)
            getattr(store, name)(*arguments)
            self.assertNotEqual(state_of(store), before)
            self.check([store.undo(), state_of(store)], [(name,), before])

    def test_of_one_of_several_and_of_all(self):
        for seed in range(60):
            store, chance = Store(loose_heap(seed), limit=seed % 3 + 1), random.Random(seed)
            states, names = [state_of(store)], []
            for _ in range(12):
                action = random_action(chance, store.heap())
                getattr(store, action[0])(*action[1:])
                states.append(state_of(store))
                names.append(action[0])
            for count in range(1, 13):
                other = store.twin()
                self.check(other.undo(count=count), tuple(names[:-count - 1:-1]))
                self.check(state_of(other), states[-count - 1])
            while names:
                self.check(store.undo(), (names.pop(),))
                self.check(state_of(store), states[len(names)])

    def test_actions_after_it(self):
        store, plain = Store(APART, limit=2), PlainStore(APART, 2)
        for seed in range(40):
            self.run_beside(store, plain, seed, 8)
            count = seed % 5 + 2
            self.check(store.undo(count), plain.undo(count))
            self.agrees(store, plain)

    def test_errors(self):
        store = Store(TREE)
        bad = [0, -1, True, False, 10 ** 99, "1", "", None, (), (1,), [], [1]]
        for count in bad + [1, 2]:
            self.refused(store, UndoError, {"count": count}, "undo", count)
        self.refused(store, UndoError, {"count": 1}, "undo")
        store.new()
        store.new()
        for count in bad + [3, 4]:
            self.refused(store, UndoError, {"count": count}, "undo", count)
        self.check([store.undo(2), store.history()], [("new", "new"), ()])
        self.refused(store, UndoError, {"count": 1}, "undo")


class TellingTest(StoreCase):
    def test_example(self):
        store = Store()
        made = [store.new(1), store.put(0, 0, 0), store.drop(0), store.collect()]
        self.check([made, store.history(), store.destroyed(), store.free_numbers()],
                   [[0, (), (), (0,)], (("new", 1), ("put", 0, 0, 0), ("drop", 0), ("collect",)), (0,), (0,)])
        self.check(state_of(store)[3:6], ((), (("new", 1), ("put", 0, 0, 0), ("drop", 0), ("collect",)), (0,)))

    def test_each_entry_of_the_history(self):
        store = Store(STAR, limit=3)
        made = [store.new(2), store.hold(5), store.put(5, 1, 4), store.put(5, 1, None), store.empty_slots(0),
                store.drop(5), store.collect_local(), store.set_limit(1), store.collect()]
        self.check(made, [5, 2, (), (), (1, 2, 3, 4), (), ((), (0, 5)), None, ()])
        self.check(store.history(), (("new", 2), ("hold", 5), ("put", 5, 1, 4), ("put", 5, 1, None), ("empty_slots", 0),
                                     ("drop", 5), ("collect_local",), ("set_limit", 1), ("collect",)))
        self.check(store.destroyed(), (1, 2, 3, 4))

    def test_what_was_returned_stays(self):
        store, plain = Store(loose_heap(3), limit=2), PlainStore(loose_heap(3), 2)
        told = []
        for seed in range(30):
            told.append((state_of(store), plain.state() + (plain.history(), plain.destroyed())))
            self.run_beside(store, plain, seed, 2)
        store.undo(20)
        for state, expected in told:
            self.check(state[:6], expected)

    def test_random_actions(self):
        heaps = [EMPTY, HOLES, APART, RING, TREE] + [loose_heap(seed) for seed in range(60)] + [loose_heap(7, 20)]
        for seed, heap in enumerate(heaps):
            limit = [1, 2, 3, 50, GREAT][seed % 5]
            self.run_beside(Store(heap, limit=limit), PlainStore(heap, limit), seed, 40)


class TwinTest(StoreCase):
    def test_example(self):
        store = Store((((1,), (), None), (1, 0, 0)))
        other = store.twin()
        other.drop(0)
        self.check([repr(store), len(other), str(store), store == other],
                   ["Store(2 live, limit 50)", 0, "1 1\n0\nfree", False])

    def test_they_live_apart(self):
        store = Store(APART, limit=2)
        self.check([store.drop(2), store.new(3), store.set_limit(1)], [(2, 3), 3, None])
        other = store.twin()
        self.assertIs(type(other), Store)
        self.check([state_of(other), other == store, other is store], [state_of(store), True, False])
        before = state_of(store)
        self.check([other.undo(3), other.heap(), other.current_limit()], [("set_limit", "new", "drop"), APART, 2])
        self.check(state_of(store), before)
        kept = state_of(other)
        self.check([store.collect(), store.undo(4), state_of(other)],
                   [(1, 0), ("collect", "set_limit", "new", "drop"), kept])
        self.check(store == other, True)

    def test_without_an_observer(self):
        told = []
        store = Store(TREE, observer=lambda name, log: told.append(name))
        store.new()
        other = store.twin()
        other.new()
        other.undo()
        self.check([told, len(store), len(other)], [["new"], 5, 5])


class EqualityTest(StoreCase):
    def equal(self, one, other, expected):
        self.check([one == other, other == one, one != other, other != one], [expected] * 2 + [not expected] * 2)

    def test_equal_stores(self):
        self.equal(Store(), Store(EMPTY, limit=50), True)
        self.equal(Store(TREE), Store((((1, 2), (3,), (), ()), (1, 0, 0, 0)), observer=lambda name, log: None), True)

    def test_one_difference(self):
        # In the heap, the limit, the free numbers, the candidates or the history alone.
        self.equal(Store(TREE), Store(MANY), False)
        self.equal(Store(TREE, limit=1), Store(TREE, limit=2), False)
        ways = [], []
        for way, first in zip(ways, (0, 1)):
            store = Store((((), ()), (1, 1)))
            way += [store.drop(first), store.drop(1 - first), store]
        one, other = ways[0][-1], ways[1][-1]
        self.check([one.heap(), other.heap(), one.free_numbers(), other.free_numbers()],
                   [((None, None), (0, 0))] * 2 + [(1, 0), (0, 1)])
        self.equal(one, other, False)
        one, other = Store(RING), Store(RING)
        self.check([one.collect(), other.collect(), one.drop(0), other.drop(0)], [()] * 4)
        self.equal(one, other, True)
        one.hold(0)
        self.equal(one, other, False)
        one.undo()
        self.equal(one, other, True)
        one.set_limit(50)
        self.check(state_of(one)[:4], state_of(other)[:4])
        self.equal(one, other, False)

    def test_the_history_counts(self):
        one, other = Store(TREE), Store(TREE)
        self.check([one.hold(0), one.drop(0)], [2, ()])
        self.check(one.heap(), other.heap())
        self.equal(one, other, False)
        self.check([other.hold(0), other.drop(0)], [2, ()])
        self.equal(one, other, True)

    def test_what_was_before_does_not_count(self):
        # Other heaps at first, other actions that were undone; the same state and the same history.
        one, other = Store((((),), (2,))), Store((((),), (1,)))
        self.check([one.collect(), other.collect()], [(), ()])
        self.equal(one, other, False)
        self.check([one.drop(0), other.hold(0)], [(), 2])
        self.equal(one, other, False)
        one, other = Store((((1,), ()), (1, 0))), Store((((None,), ()), (1, 1)))
        self.check([one.empty_slots(0), other.empty_slots(0)], [(1,), ()])
        self.check([one.heap(), other.heap()], [(((None,), None), (1, 0)), (((None,), ()), (1, 1))])
        self.equal(one, other, False)
        one, other = Store((((1, None), (0,)), (1, 0))), Store((((1, 0), (0,)), (1, 0)))
        self.check([one.put(0, 1, 0), other.put(0, 1, 0)], [(), ()])
        self.equal(one, other, True)
        self.check([one.undo(), other.undo()], [("put",), ("put",)])
        self.equal(one, other, False)
        one.set_limit(9)
        one.undo()
        self.equal(one, Store((((1, None), (0,)), (1, 0))), True)

    def test_candidates_alone(self):
        # The put takes a reference from the node in one store only.
        one, other = Store((((1, 1), ()), (1, 0))), Store((((1, None), ()), (1, 0)))
        self.check([one.collect(), other.collect(), one.put(0, 1, 1), other.put(0, 1, 1)], [()] * 4)
        self.check([one.heap() == other.heap(), one.history() == other.history()], [True, True])
        self.check([one.candidates(), other.candidates()], [(1,), ()])
        self.equal(one, other, False)

    def test_other_kinds(self):
        store = Store(TREE)
        for value in [None, True, False, 0, 4, -1, "", str(store), repr(store), (), [], TREE, [TREE], (store,), [store],
                      state_of(store), ((), ()), Store]:
            self.equal(store, value, False)
            self.equal(Store(), value, False)

    def test_truth_and_texts(self):
        for heap in HEAPS + [((None, None), (0, 0)), FORTY] + [random_heap(seed) for seed in range(30)]:
            live = len(plain_live(heap))
            for limit in (1, 50, GREAT):
                store = Store(heap, limit=limit)
                self.check([len(store), bool(store), not store], [live, live > 0, live == 0])
                self.check([str(store), repr(store)], [format_heap(heap), f"Store({live} live, limit {limit})"])
        store = Store(TREE)
        store.drop(0)
        self.check([bool(store), len(store), repr(store), str(store)],
                   [False, 0, "Store(0 live, limit 50)", "free\nfree\nfree\nfree"])


class CorrespondenceTest(StoreCase):
    def corresponds(self, one, other, names):
        """The assignment preserves the slots and the outside references."""
        (slots, outside), (others, other_outside) = one.heap(), other.heap()
        live = plain_live(one.heap())
        self.assertEqual(sorted(names[v] for v in live), plain_live(other.heap()))
        for v in live:
            self.check(others[names[v]], tuple(None if w is None else names[w] for w in slots[v]))
            self.check(other_outside[names[v]], outside[v])

    def test_led_alike(self):
        for seed in range(120):
            chance = random.Random(seed)
            slots, outside = heap = loose_heap(seed)
            n = len(slots)
            numbers = chance.sample(range(n + 3), n)
            rows, references = [None] * (n + 3), [0] * (n + 3)
            for v in plain_live(heap):
                rows[numbers[v]] = tuple(None if w is None else numbers[w] for w in slots[v])
                references[numbers[v]] = outside[v]
            names = {v: numbers[v] for v in plain_live(heap)}
            limits = chance.sample([1, 2, 3, 5, GREAT], 2)
            one, other = Store(heap, limit=limits[0]), Store((tuple(rows), tuple(references)), limit=limits[1])
            self.corresponds(one, other, names)
            for _ in range(30):
                name, *arguments = random_action(chance, one.heap())
                assigned = list(arguments)
                for at in {"hold": [0], "drop": [0], "put": [0, 2], "empty_slots": [0]}.get(name, []):
                    if arguments[at] is not None:
                        assigned[at] = names[arguments[at]]
                if name == "set_limit":
                    assigned = [chance.choice([1, 2, 3, GREAT])]
                result, other_result = getattr(one, name)(*arguments), getattr(other, name)(*assigned)
                if name == "new":
                    names[result] = other_result
                self.corresponds(one, other, names)


class ObserverTest(StoreCase):
    def watched(self, heap=TREE, limit=50):
        told = []
        return Store(heap, limit=limit, observer=lambda name, log: told.append((name, log))), told

    def test_what_it_is_told(self):
        store, told = self.watched(limit=1)
        self.check(told, [])
        made = [store.new(1), store.hold(4), store.set_limit(2), store.put(4, 0, 4), store.put(0, 1, None),
                store.drop(4),
                store.drop(4), store.empty_slots(1), store.collect_local(), store.hold(0), store.collect(),
                store.undo(2), store.drop(0), store.undo()]
        self.check(made, [4, 2, None, (), (2,), (), (), (3,), ((4,), (0, 1, 4)), 2, (), ("collect", "hold"), (0, 1),
                          ("drop",)])
        self.check(told, [("new", ()), ("hold", ()), ("set_limit", ()), ("put", ()), ("put", (2,)), ("drop", ()),
                          ("drop", ()),
                          ("empty_slots", (3,)), ("collect_local", (4,)), ("hold", ()), ("collect", ()), ("undo", ()),
                          ("drop", (0, 1)), ("undo", ())])

    def test_not_after_an_error_and_not_by_a_question(self):
        store, told = self.watched()
        for name, arguments in [("new", (41,)), ("hold", (9,)), ("drop", (1,)), ("put", (0, 2, 0)),
                                ("empty_slots", ("0",)), ("set_limit", (0,)), ("undo", (1,)), ("undo", (0,))]:
            self.assertRaises((ValueError, LookupError), getattr(store, name), *arguments)
        state_of(store)
        self.check([store == store.twin(), told], [True, []])

    def test_random_actions(self):
        for seed in range(30):
            heap = loose_heap(seed)
            plain, chance = PlainStore(heap, 2), random.Random(seed)
            store, told = self.watched(heap, 2)
            for _ in range(30):
                action = random_action(chance, plain.heap)
                _, log = plain.perform(*action)
                getattr(store, action[0])(*action[1:])
                self.check(told, [(action[0], log)])
                told.clear()

    def test_within_it(self):
        seen = []

        def look(name, log):
            twin = store.twin()
            seen.append((name, log, state_of(store), store == twin))
            self.check(state_of(twin), state_of(store))
            free = store.free_numbers() + (len(store.heap()[0]),)
            self.check([twin.new(2), twin.undo(), twin == store], [free[0], ("new",), True])

        store, plain = Store(TREE, limit=1, observer=look), PlainStore(TREE, 1)
        for action in [("put", 0, 0, None), ("new", 3), ("hold", 3), ("put", 3, 2, 0), ("empty_slots", 3), ("drop", 3),
                       ("collect_local",), ("set_limit", 2), ("collect",)]:
            _, log = plain.perform(*action)
            getattr(store, action[0])(*action[1:])
            self.agrees(store, plain)
            self.check(seen.pop(), (action[0], log, state_of(store), True))
        self.check(store.undo(5), plain.undo(5))
        self.agrees(store, plain)
        self.check(seen, [("undo", (), state_of(store), True)])

    def test_busy(self):
        calls = [("new", ()), ("new", (41,)), ("new", (None,)), ("hold", (0,)), ("hold", (9,)), ("drop", (0,)),
                 ("drop", (1,)), ("put", (0, 0, 1)), ("put", (9, 9, 9)), ("put", (0, 9, 9)), ("empty_slots", (0,)),
                 ("empty_slots", ([],)),
                 ("collect", ()), ("collect_local", ()), ("set_limit", (3,)), ("set_limit", (0,)), ("undo", ()),
                 ("undo", (1,)), ("undo", (0,)), ("undo", ("1",))]
        refusals = []

        def meddle(name, log):
            before = state_of(store)
            for method, arguments in calls:
                self.fails(Busy, {}, getattr(store, method), *arguments)
                refusals.append((name, method))
            self.check(state_of(store), before)

        store = Store(TREE, observer=meddle)
        for name, arguments in [("new", ()), ("hold", (0,)), ("put", (0, 0, None)), ("empty_slots", (0,)),
                                ("drop", (0,)),
                                ("collect", ()), ("collect_local", ()), ("set_limit", (3,)), ("undo", (2,))]:
            getattr(store, name)(*arguments)
            self.assertEqual(refusals, [(name, method) for method, _ in calls])
            refusals.clear()
        # Full stores, too: Busy comes before Full.
        store = Store((((),) * 39, (9,) * 39), observer=lambda name, log: self.fails(Busy, {}, store.new))
        store.new()
        store = Store((((),), (8,)), observer=lambda name, log: self.fails(Busy, {}, store.hold, 0))
        self.check(store.hold(0), 9)

    def test_busy_passes_through(self):
        store = Store(TREE, observer=lambda name, log: store.new())
        self.fails(Busy, {}, store.hold, 0)
        self.check([store.history(), len(store)], [(("hold", 0),), 4])

    def test_an_observer_that_raises(self):
        def halt(name, log):
            told.append(name)
            if stop[0]:
                raise error(name)

        for error in (ArithmeticError, NoNode, KeyboardInterrupt, StopIteration):
            told, stop = [], [True]
            store, plain = Store(TREE, limit=2, observer=halt), PlainStore(TREE, 2)
            actions = [("new", 1), ("hold", 4), ("put", 4, 0, 3), ("drop", 0), ("empty_slots", 4), ("collect",),
                       ("collect_local",), ("set_limit", 9)]
            for action in actions:
                plain.perform(*action)
                self.assertRaises(error, getattr(store, action[0]), *action[1:])
                self.agrees(store, plain)
            plain.undo(3)
            self.assertRaises(error, store.undo, 3)
            self.agrees(store, plain)
            self.check(told, [action[0] for action in actions] + ["undo"])
            stop[0] = False
            result, _ = plain.perform("new", 0)
            self.check(store.new(), result)
            self.agrees(store, plain)

    def test_two_stores(self):
        # An observer may act on another store, which has an observer of its own.
        other, told = self.watched(EMPTY)
        store = Store(TREE, observer=lambda name, log: other.new(len(log)))
        store.drop(0)
        store.new()
        self.check([other.heap(), told], [((((None,) * 4), ()), (1, 1)), [("new", ()), ("new", ())]])


class PathTest(StoreCase):
    def test_a_long_life(self):
        store, plain = Store(PATH, limit=2), PlainStore(PATH, 2)
        self.run_beside(store, plain, 11, 300)
        self.check(store.undo(300), plain.undo(300))
        self.agrees(store, plain)
        self.check(store == Store(PATH, limit=2), True)


if __name__ == "__main__":
    unittest.main()
