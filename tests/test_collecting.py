"""Point 66: destroying all nodes that are not reachable."""

import unittest

from slotfall.collecting import collect
from slotfall.heaps import is_heap
from slotfall.machine import empty_slots
from tests.plain_store import collected, loose_heap
from tests.support import (APART, EMPTY, HEAPS, LOOP, MANY, RING, TREE, StrictCase, plain_live, plain_reachable,
                           random_heap)

GREAT = 10 ** 30
# Two rings, 0 with 1 and 2 with 3; node 4 is reachable and holds nothing of them, and 5 is free.
TWO_RINGS = (((1,), (0,), (3,), (2,), (4,), None), (0, 0, 0, 0, 1, 0))
# The ring of 2 and 3 holds that of 0 and 1.
HELD_RING = (((1,), (0,), (3, 0), (2,)), (0, 0, 0, 0))
# Each node of the ring of 0, 1 and 2 holds a chain; node 6 is reachable and is held by the ring, too.
CHAINS = (((1, 3), (2, 4), (0, 5, 6), (), (3,), (4, None), ()), (0, 0, 0, 0, 0, 0, 2))


def limits_for(heap):
    return [1, 2, 3, max(1, len(heap[0])), GREAT]


class CollectTest(StrictCase):
    def test_example(self):
        self.check(collect((((1,), (0, 2), ()), (0, 0, 1)), limit=1), ((1, 0), 0, ((None, None, ()), (0, 0, 1))))

    def test_nothing_to_collect(self):
        for heap in [EMPTY, TREE, MANY, LOOP, RING, (((),), (9,)), ((None, None), (0, 0))]:
            for limit in limits_for(heap):
                self.check(collect(heap=heap, limit=limit), ((), 0, heap))

    def test_rings(self):
        for limit in limits_for(TWO_RINGS):
            self.check(collect((((0,),), (0,)), limit=limit), ((0,), 0, ((None,), (0,))))
            self.check(collect(TWO_RINGS, limit=limit),
                       ((1, 0, 3, 2), 0, ((None, None, None, None, (4,), None), (0, 0, 0, 0, 1, 0))))
            # Node 0 is emptied first, but 2 still holds it until its own turn comes.
            self.check(collect(HELD_RING, limit=limit), ((1, 3, 0, 2), 0, ((None,) * 4, (0,) * 4)))
        self.check(collect(APART, limit=1), ((1, 0), 0, ((None, None, (3,), ()), (0, 0, 1, 0))))

    def test_a_node_gone_before_its_turn(self):
        after = ((None,) * 6 + ((),), (0,) * 6 + (2,))
        for limit, peak in [(1, 1), (2, 1), (3, 0), (7, 0), (GREAT, 0)]:
            self.check(collect(CHAINS, limit=limit), ((1, 2, 5, 4, 3, 0), peak, after))

    def test_the_greatest_peak(self):
        # Emptying 0 shelves nothing but the two nodes that 1 holds; emptying 4 the three that 5 holds.
        heap = (((1,), (0, 2, 3), (), (), (5,), (4, 6, 7, 8), (), (), ()), (0,) * 9)
        self.check(collect(heap, limit=1), ((1, 3, 2, 0, 5, 8, 7, 6, 4), 3, ((None,) * 9, (0,) * 9)))
        self.check(collect(heap, limit=2), ((1, 2, 3, 0, 5, 6, 7, 8, 4), 0, ((None,) * 9, (0,) * 9)))

    def test_agrees_with_the_second_machine(self):
        for heap in HEAPS + [loose_heap(seed) for seed in range(300)] + [loose_heap(seed, 40) for seed in range(20)]:
            for limit in limits_for(heap):
                self.check(collect(heap, limit=limit), collected(heap, limit, plain_live(heap)).result())

    def test_step_by_step(self):
        # Each turn is an empty_slots of its own.
        for heap in [TWO_RINGS, HELD_RING, CHAINS] + [loose_heap(seed) for seed in range(100)]:
            for limit in limits_for(heap):
                log, peak, now = (), 0, heap
                for v in plain_live(heap):
                    if v not in plain_reachable(heap) and now[0][v] is not None:
                        more, height, now = empty_slots(now, v, limit=limit)
                        log, peak = log + more, max(peak, height)
                self.check(collect(heap, limit=limit), (log, peak, now))

    def test_what_is_left(self):
        gone = 0
        for heap in [loose_heap(seed) for seed in range(300)] + [random_heap(seed, 40, 3) for seed in range(30)]:
            lost = [v for v in plain_live(heap) if v not in plain_reachable(heap)]
            for limit in (1, 2, GREAT):
                log, _, after = collect(heap, limit=limit)
                self.check(sorted(log), lost)
                self.check(is_heap(after), True)
                self.check(plain_live(after), plain_reachable(heap))
                self.check(after[1], heap[1])
                for v in plain_live(after):
                    self.check(after[0][v], heap[0][v])
                self.check(collect(after, limit=limit), ((), 0, after))
            gone += len(lost)
        self.assertGreater(gone, 300)


if __name__ == "__main__":
    unittest.main()
