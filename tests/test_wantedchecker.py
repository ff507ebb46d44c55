"""Point 57: checking arrangements."""

import itertools
import random
import unittest

from slotfall.errors import InvalidCertificate
from slotfall.wanted import arrangement
from slotfall.wantedchecker import check_arrangement
from tests.plain_trees import STAR_40, all_shapes, all_trees, numbered, plain_log
from tests.rearranged import (GREAT, bar_case, distances, fewest, great_cases, plain_forced, possible_swaps,
                              small_cases, swapped)
from tests.support import NO_NODES, StrictCase, lists_of

TREE = ((1, 2), (3,), (), ())
# Limit 2: 1, 2 and 3 are near to the root; 4 to 7 are far from it, and from 1 and 2 as well.
FORK = ((1, 2, 3), (4, 5), (6, 7), (), (), (), (), ())
UPWARDS = (0, 1, 2, 3, 4, 5, 6, 7)
SWAPPED = plain_log(swapped(FORK, (0, 0, 1), (1, 0, 1)), 2)


class AcceptedTest(StrictCase):
    def test_example(self):
        found = [check_arrangement(TREE, (0, 2, 1, 3), ("swaps", ((0, 0, 1),)), limit=4),
                 check_arrangement(TREE, (0, 3, 1, 2), ("bar", 3, 1), limit=4)]
        self.check(found, [1, None])

    def test_what_arrangement_returns(self):
        for tree, wanted, limit in itertools.chain(small_cases(), great_cases()):
            value = arrangement(tree, wanted, limit=limit)
            expected = len(value[1]) if value[0] == "swaps" else None
            self.check(check_arrangement(tree=tree, wanted=wanted, value=value, limit=limit), expected)

    def test_swaps_of_different_nodes_in_any_order(self):
        swaps = [(0, 0, 1), (1, 0, 1), (2, 0, 1)]
        wanted = plain_log(swapped(FORK, *swaps), 2)
        for order in itertools.permutations(swaps):
            self.check(check_arrangement(FORK, wanted, ("swaps", order), limit=2), 3)

    def test_other_fewest_swaps(self):
        wanted = plain_log(((2, 3, 1),) + FORK[1:], 2)
        for swaps in itertools.product(possible_swaps(FORK)[:3], repeat=2):
            if swapped(FORK, *swaps)[0] == (2, 3, 1):
                self.check(check_arrangement(FORK, wanted, ("swaps", swaps), limit=2), 2)
            else:
                self.refuses_swaps("log", FORK, wanted, swaps, 2)

    def refuses_swaps(self, reason, tree, wanted, swaps, limit):
        self.fails(InvalidCertificate, {"reason": reason, "index": -1}, check_arrangement, tree, wanted,
                   ("swaps", swaps), limit=limit)

    def test_all_short_rows_of_swaps(self):
        for n in range(1, 6):
            for shape in all_shapes(n):
                tree = numbered(shape, random.Random(n).sample(range(n), n))
                far = distances(tree)
                goals = random.Random(sum(shape)).sample(sorted(far), min(4, len(far)))
                for goal, limit in itertools.product(goals, [1, 2, GREAT]):
                    self.every_row(tree, goal, far[goal], limit)

    def every_row(self, tree, goal, least, limit):
        wanted = plain_log(goal, limit)
        for many in range(4):
            for swaps in itertools.product(possible_swaps(tree), repeat=many):
                if swapped(tree, *swaps) != goal:
                    self.refuses_swaps("log", tree, wanted, swaps, limit)
                elif many > least:
                    self.refuses_swaps("many", tree, wanted, swaps, limit)
                else:
                    self.check(check_arrangement(tree, wanted, ("swaps", swaps), limit=limit), least)

    def test_every_bar(self):
        seen = set()
        for n in range(1, 5):
            for tree in all_trees(n)[::3]:
                for wanted in itertools.permutations(range(n)):
                    for limit in (1, 2, 3):
                        seen |= self.every_pair(tree, wanted, limit)
        tree = ((1, 2), (3,), (4,), (), ())
        for wanted in itertools.permutations(range(5)):
            seen |= self.every_pair(tree, wanted, 2)
        self.assertEqual(seen, {1, 2, 3, None})

    def every_pair(self, tree, wanted, limit):
        cases = set()
        for first, second in itertools.product(range(len(tree)), repeat=2):
            value = ("bar", first, second)
            if wanted.index(first) >= wanted.index(second):
                self.fails(InvalidCertificate, {"reason": "order", "index": -1}, check_arrangement, tree, wanted, value,
                           limit=limit)
                continue
            cases.add(bar_case(tree, wanted, first, second, limit))
            if bar_case(tree, wanted, first, second, limit) is None:
                self.fails(InvalidCertificate, {"reason": "possible", "index": -1}, check_arrangement, tree, wanted,
                           value, limit=limit)
            else:
                self.check(check_arrangement(tree, wanted, value, limit=limit), None)
        return cases

    def test_forty_nodes(self):
        for tree, wanted, limit in great_cases():
            forced = plain_forced(tree, wanted, limit)
            if plain_log(forced, limit) != wanted:
                self.refuses_swaps("log", tree, wanted, (), limit)
                continue
            value = arrangement(tree, wanted, limit=limit)
            self.check(check_arrangement(tree, wanted, value, limit=limit), fewest(tree, forced))
            swap = possible_swaps(tree)
            if swap:
                self.refuses_swaps("log", tree, wanted, value[1] + (swap[0],), limit)
                self.refuses_swaps("many", tree, wanted, value[1] + (swap[0],) * 2, limit)
                self.refuses_swaps("many", tree, wanted, (swap[-1],) * 2 + value[1], limit)


class RefusedTest(StrictCase):
    def refused(self, reason, index, value, tree=FORK, wanted=SWAPPED, limit=2):
        self.fails(InvalidCertificate, {"reason": reason, "index": index}, check_arrangement, tree, wanted, value,
                   limit=limit)

    def test_example(self):
        self.refused("log", -1, ("swaps", ()), TREE, (0, 2, 1, 3), 4)

    def test_shape(self):
        good = ((0, 0, 1), (1, 0, 1))
        values = [None, True, False, 0, -1, 10 ** 99, "", "swaps", "bar", [], (), ("swaps",), ("bar",), ("bar", 3),
                  ("bar", 3, 1, 0), ("bar", (3, 1)), ("swaps", good, ()), ("swaps", (0, 0, 1), (1, 0, 1)),
                  ["swaps", good],
                  ["bar", 3, 1], ("swaps", list(good)), ("swaps", []), ("swaps", None), ("swaps", 2), ("swaps", "ab"),
                  ("Swaps", good), ("swaps ", good), ("", good), ("bars", 3, 1), ("BAR", 3, 1), (None, good),
                  (None, 3, 1),
                  (True, 3, 1), (("bar",), 3, 1), (["swaps"], good), (good, "swaps"), (3, 1, "bar"), ("swap", good),
                  ("bar", good), ("swaps", 3, 1), (0, 0), (0, 1, 2)]
        for value in values:
            self.refused("shape", -1, value)
            self.refused("shape", -1, value, ((),), (0,), 1)
        self.check(check_arrangement(FORK, SWAPPED, ("swaps", good), limit=2), 2)

    def test_swap(self):
        good = [(0, 0, 1), (1, 0, 1)]
        bad = [None, True, 0, "", "001", (), [], (0,), (0, 0), (0, 0, 1, 1), [0, 0, 1], [[0, 0, 1]], ((0, 0, 1),),
               (0, 1, 0),
               (0, 1, 1), (0, 0, 0), (0, -1, 1), (0, -2, -1), (0, 0, 3), (0, 2, 3), (1, 0, 2), (1, 1, 2), (3, 0, 1),
               (4, 0, 1),
               (8, 0, 1), (-1, 0, 1), (40, 0, 1), (0, 0, 10 ** 99), (0, -10 ** 99, 1), (10 ** 99, 0, 1), (0, 0, True),
               (0, False, 1), (False, 0, 1), (True, 0, 1), ("0", 0, 1), (0, "0", 1), (0, 0, "1"), (0, 0, None),
               (None, 0, 1), (0, None, 1), (0, (0,), 1), (0, 0, [1]), ([0], 0, 1), ((), 0, 1)]
        for entry in bad:
            self.refused("swap", 0, ("swaps", (entry,)))
            self.refused("swap", 0, ("swaps", (entry, entry, good[0])))
            self.refused("swap", 2, ("swaps", tuple(good) + (entry,)))
            self.refused("swap", 1, ("swaps", (good[0], entry, good[1])))
            self.refused("swap", 19, ("swaps", (good[0],) * 19 + (entry, None)))
        self.refused("swap", 0, ("swaps", tuple(lists_of(good))))
        self.refused("swap", 0, ("swaps", ((0, 0, 1),)), ((),), (0,))
        self.refused("swap", 0, ("swaps", ((0, 0, 1),)), ((1,), ()), (0, 1))
        # Counted from the end, these would be swaps of the root.
        for node in (-1, -3, 3):
            self.refused("swap", 0, ("swaps", ((node, 0, 1),)), ((), (), (0, 1)), (2, 1, 0))

    def test_log(self):
        self.refused("log", -1, ("swaps", ()))
        self.refused("log", -1, ("swaps", ((0, 0, 1),)))
        self.refused("log", -1, ("swaps", ((0, 0, 1), (1, 0, 1), (2, 0, 1))))
        # More swaps than are needed, but to another log.
        self.refused("log", -1, ("swaps", ((0, 0, 1),) * 8))
        # No rearrangement has this log.
        self.refused("log", -1, ("swaps", ()), wanted=UPWARDS[::-1])

    def test_many(self):
        self.refused("many", -1, ("swaps", ((0, 0, 1), (1, 0, 1), (2, 0, 1), (2, 0, 1))))
        self.refused("many", -1, ("swaps", ((0, 0, 2), (1, 0, 1), (0, 1, 2), (0, 0, 2))))
        self.refused("many", -1, ("swaps", ((1, 0, 1),) * 2), wanted=plain_log(FORK, 2))
        self.check(check_arrangement(FORK, plain_log(FORK, 2), ("swaps", ()), limit=2), 0)

    def test_swaps_of_the_star(self):
        wanted = (0,) + tuple(range(39, 0, -1))
        best = tuple((0, slot, 38 - slot) for slot in range(19))
        for value in (best, best[::-1]):
            self.check(check_arrangement(STAR_40, wanted, ("swaps", value), limit=2), 19)
            self.refused("log", -1, ("swaps", value[1:]), STAR_40, wanted, 2)
            self.refused("many", -1, ("swaps", value + value + value), STAR_40, wanted, 2)
            self.refused("log", -1, ("swaps", value), STAR_40, wanted, 1)
        self.check(check_arrangement(STAR_40, wanted, ("swaps", ()), limit=1), 0)

    def test_node(self):
        for node in NO_NODES + [8, 10, -8]:
            self.refused("node", 1, ("bar", node, 0))
            self.refused("node", 1, ("bar", node, node))
            self.refused("node", 1, ("bar", node, None))
            self.refused("node", 2, ("bar", 0, node))

    def test_order(self):
        for node in range(8):
            self.refused("order", -1, ("bar", node, node))
        for at, other in itertools.combinations(range(8), 2):
            self.refused("order", -1, ("bar", SWAPPED[other], SWAPPED[at]))

    def test_possible(self):
        for at, other in itertools.combinations(range(8), 2):
            self.refused("possible", -1, ("bar", SWAPPED[at], SWAPPED[other]))
        self.refused("possible", -1, ("bar", 0, 1), wanted=UPWARDS)
        self.refused("possible", -1, ("bar", 1, 4), wanted=UPWARDS)
        # Near before far, and two far ones in the order of the forced tree.
        self.refused("possible", -1, ("bar", 2, 4), wanted=UPWARDS)
        self.refused("possible", -1, ("bar", 4, 5), wanted=UPWARDS)
        self.check(check_arrangement(FORK, UPWARDS, ("bar", 4, 6), limit=2), None)

    def test_a_bar_holds_although_another_order_is_possible(self):
        # Only the two nodes are compared: the log as a whole is out of reach.
        self.check(check_arrangement(FORK, (0, 2, 1, 4, 3, 5, 6, 7), ("bar", 4, 3), limit=2), None)
        self.refused("possible", -1, ("bar", 2, 1), wanted=(0, 2, 1, 4, 3, 5, 6, 7))


if __name__ == "__main__":
    unittest.main()
