"""Points 59 to 65: regular trees, positions in their logs, and the way from one node to the next."""

import time
import unittest

from slotfall.errors import InvalidPath, NoPosition, TooMany
from slotfall.regular import next_path, path_at, position_of, regular_peak, regular_size, regular_tree
from slotfall.shelves import shelf_peak
from slotfall.trees import is_tree
from tests.plain_trees import plain_heap, plain_log, plain_root
from tests.support import StrictCase, lists_of

GREAT = 10 ** 30
GREAT_LIMITS = [1, 2, 3, 7, 50, 98, 99, 100, 101, GREAT]
NO_NUMBERS = [True, False, None, "", "0", (), (0,), [], [0], ((0,),)]


def plain_tree(width, levels):
    """The regular tree, grown node by node in preorder."""
    rows = []

    def grow(depth):
        v = len(rows)
        rows.append(())
        rows[v] = tuple([grow(depth + 1) for _ in range(width)]) if depth < levels - 1 else ()
        return v

    grow(0)
    return tuple(rows)


def count_nodes(width, levels):
    return sum(width ** depth for depth in range(levels))


# All widths and numbers of levels with at most 40 nodes.
SMALL = [(width, levels) for width in range(1, 7) for levels in range(1, 41) if count_nodes(width, levels) <= 40]


def paths_in(tree):
    """The path of each node."""
    paths = {plain_root(tree): ()}
    for v in range(len(tree)):
        for slot, child in enumerate(tree[v]):
            paths[child] = paths[v] + (slot,)
    return paths


def limits_for(levels):
    return list(range(1, levels + 2)) + [GREAT]


def small_logs():
    """Every small regular tree with every limit, and the paths in the order of its log."""
    for width, levels in SMALL:
        tree = plain_tree(width, levels)
        paths = paths_in(tree)
        for limit in limits_for(levels):
            yield {"width": width, "levels": levels, "limit": limit}, [paths[v] for v in plain_log(tree, limit)]


def some_positions(size):
    """The first, the last and other positions."""
    found = [0, 1, 2, size // 3, size // 2, size - 2, size - 1]
    found += [size * part // 97 for part in range(97)] + [10 ** power for power in range(0, 78, 7)]
    return sorted({position for position in found if 0 <= position < size})


class SizeTest(StrictCase):
    def test_example(self):
        self.check([regular_size(width=2, levels=3), regular_size(width=1, levels=100)], [7, 100])

    def test_every_width(self):
        for width in range(1, 7):
            for levels in (1, 2, 3, 4, 10, 99, 100):
                self.check(regular_size(levels=levels, width=width), count_nodes(width, levels))
        self.check([regular_size(width=width, levels=3) for width in range(1, 7)], [3, 7, 13, 21, 31, 43])
        self.check(regular_size(width=6, levels=100), (6 ** 100 - 1) // 5)
        self.check(regular_size(width=2, levels=100), 2 ** 100 - 1)


class TreeTest(StrictCase):
    def test_example(self):
        self.check(regular_tree(width=2, levels=3), ((1, 4), (2, 3), (), (), (5, 6), (), ()))

    def test_every_small_tree(self):
        for width, levels in SMALL:
            found = regular_tree(levels=levels, width=width)
            self.check(found, plain_tree(width, levels))
            self.check([is_tree(found), len(found)], [True, count_nodes(width, levels)])

    def test_edges(self):
        for width in range(1, 7):
            self.check(regular_tree(width=width, levels=1), ((),))
            self.check(regular_tree(width=width, levels=2), (tuple(range(1, width + 1)),) + ((),) * width)
        self.check(len(regular_tree(width=1, levels=40)), 40)
        self.check(len(regular_tree(width=3, levels=4)), 40)
        self.check(len(regular_tree(width=5, levels=3)), 31)

    def test_too_many(self):
        start = time.perf_counter()
        for width, levels in [(1, 41), (1, 100), (2, 6), (3, 5), (4, 4), (5, 4), (6, 3), (2, 100), (6, 100)]:
            self.fails(TooMany, {"most": 40}, regular_tree, width=width, levels=levels)
        self.assertLess(time.perf_counter() - start, 1)


class PeakTest(StrictCase):
    def test_example(self):
        found = [regular_peak(width=2, levels=3, limit=1), regular_peak(width=2, levels=3, limit=2),
                 regular_peak(width=2, levels=3, limit=3), regular_peak(width=1, levels=5, limit=2)]
        self.check(found, [(3, 1), (4, 2), (0, 0), (1, 1)])

    def test_every_small_tree(self):
        for width, levels in SMALL:
            heap = plain_heap(plain_tree(width, levels))
            for limit in limits_for(levels):
                expected = shelf_peak(heap, 0, limit=limit)
                self.check(regular_peak(limit=limit, levels=levels, width=width), expected)

    def test_nothing_on_the_shelf(self):
        for width in range(1, 7):
            for levels in (1, 2, 99, 100):
                for limit in (levels, levels + 1, GREAT):
                    self.check(regular_peak(width=width, levels=levels, limit=limit), (0, 0))

    def test_width_one(self):
        for limit in range(1, 100):
            self.check(regular_peak(width=1, levels=100, limit=limit), (1, limit - 1))

    def test_great_trees(self):
        # Each block leaves all far nodes but one on the shelf below those of the next block.
        for limit, blocks in [(1, 99), (2, 49), (3, 33), (49, 2), (50, 1), (98, 1), (99, 1), (100, 0), (GREAT, 0)]:
            for width in range(2, 7):
                peak = blocks * (width ** limit - 1) + 1 if blocks else 0
                position = blocks * count_nodes(width, limit) - 1 if blocks else 0
                self.check(regular_peak(width=width, levels=100, limit=limit), (peak, position))
        self.check(regular_peak(width=6, levels=100, limit=1), (496, 98))
        self.check(regular_peak(width=6, levels=100, limit=2), (1716, 342))


class PositionTest(StrictCase):
    def test_example(self):
        self.check([position_of((1, 0), width=2, levels=3, limit=2), position_of((1, 0), width=2, levels=3, limit=1)],
                   [4, 3])
        self.check([path_at(6, width=2, levels=3, limit=2), path_at(2 ** 99, width=2, levels=100, limit=1)],
                   [(0, 0), (0,)])
        self.fails(InvalidPath, {"index": 1}, position_of, (1, 2), width=2, levels=3, limit=2)

    def test_every_small_log(self):
        for regular, paths in small_logs():
            for position, path in enumerate(paths):
                self.check(position_of(path=path, **regular), position)
                self.check(path_at(position=position, **regular), path)

    def test_there_and_back(self):
        for width in (1, 2, 6):
            for limit in GREAT_LIMITS:
                regular = {"width": width, "levels": 100, "limit": limit}
                for position in some_positions(count_nodes(width, 100)):
                    path = path_at(position, **regular)
                    self.assertTrue(type(path) is tuple and len(path) < 100)
                    self.assertTrue(all(type(slot) is int and 0 <= slot < width for slot in path))
                    self.check(position_of(path, **regular), position)

    def test_paths_of_great_trees(self):
        for width in (2, 6):
            paths = [(), (0,), (width - 1,), (0,) * 99, (width - 1,) * 99, (1,) * 50, (0, 1) * 49 + (0,), (1, 0) * 30]
            for limit in GREAT_LIMITS:
                regular = {"width": width, "levels": 100, "limit": limit}
                for path in paths:
                    self.check(path_at(position_of(path, **regular), **regular), path)

    def test_the_first_and_the_last(self):
        last = count_nodes(6, 100) - 1
        for limit in GREAT_LIMITS:
            regular = {"width": 6, "levels": 100, "limit": limit}
            self.check([position_of((), **regular), path_at(0, **regular)], [0, ()])
            # Near children come from the first slot to the last, far ones from the last to the first.
            blocks = 99 // limit
            path = (0,) * (limit * blocks) + (5,) * (99 - limit * blocks)
            self.check([position_of(path, **regular), path_at(last, **regular)], [last, path])

    def test_somewhat_beyond_the_limits(self):
        for limit in (-1, 0, GREAT + 1, 10 ** 99):
            for width, levels in [(2, 3), (7, 5), (3, 101), (1, 150)]:
                regular = {"width": width, "levels": levels, "limit": limit}
                regular_peak(**regular)
                for path in ((), (0,), (0,) * (levels - 1)):
                    self.check(path_at(position_of(path, **regular), **regular), path)
                    next_path(path, **regular)

    def test_positions_by_hand(self):
        # Preorder with the first children first, and with the last ones first.
        self.check(position_of((5, 5), width=6, levels=100, limit=GREAT),
                   2 + 5 * count_nodes(6, 99) + 5 * count_nodes(6, 98))
        self.check(position_of((5, 4), width=6, levels=100, limit=1), 2 + count_nodes(6, 98))
        self.check(position_of((5, 4), width=6, levels=100, limit=2), 7 + count_nodes(6, 98))
        self.check(position_of((0,) * 99, width=1, levels=100, limit=7), 99)
        self.check(position_of((0,) * 98, width=2, levels=100, limit=99), 98)
        self.check(position_of((1,) * 99, width=2, levels=100, limit=99), count_nodes(2, 99))

    def test_invalid_paths(self):
        refuse_paths(self, position_of)

    def test_no_position(self):
        for regular in [{"width": 2, "levels": 3, "limit": 2}, {"width": 1, "levels": 1, "limit": 1},
                        {"width": 6, "levels": 100, "limit": GREAT}, {"width": 1, "levels": 100, "limit": 7}]:
            size = count_nodes(regular["width"], regular["levels"])
            for position in NO_NUMBERS + [-1, -size, size, size + 1, 10 ** 99, -10 ** 99, "a", [None], ((), 0)]:
                self.fails(NoPosition, {"position": position}, path_at, position, **regular)
            self.check(position_of(path_at(size - 1, **regular), **regular), size - 1)


class NextPathTest(StrictCase):
    def test_example(self):
        found = [next_path((1,), width=2, levels=3, limit=2), next_path((0, 0), width=2, levels=3, limit=2)]
        self.check(found, [(1, 1), None])

    def test_every_small_log(self):
        for regular, paths in small_logs():
            for path, following in zip(paths, paths[1:] + [None]):
                self.check(next_path(path=path, **regular), following)

    def test_great_trees(self):
        for width in (1, 2, 6):
            size = count_nodes(width, 100)
            for limit in GREAT_LIMITS:
                regular = {"width": width, "levels": 100, "limit": limit}
                for position in some_positions(size):
                    path = path_at(position, **regular)
                    following = path_at(position + 1, **regular) if position + 1 < size else None
                    self.check(next_path(path, **regular), following)

    def test_from_block_to_block(self):
        # The last node of the first block; then the last tree below it; then the tree before that one.
        regular = {"width": 3, "levels": 100, "limit": 50}
        self.check(next_path((2,) * 49, **regular), (2,) * 50)
        self.check(next_path((2,) * 99, **regular), (2,) * 49 + (1,))
        self.check(next_path((0,) * 50 + (2,) * 49, **regular), None)
        self.check(next_path((1,) + (0,) * 49 + (2,) * 49, **regular), (0,) + (2,) * 49)

    def test_invalid_paths(self):
        refuse_paths(self, next_path)


def refuse_paths(case, call):
    """InvalidPath for what is no tuple, too long, or has a wrong entry."""
    for limit in (1, 2, 7, 99, 100, GREAT):
        for regular in [{"width": 2, "levels": 5}, {"width": 6, "levels": 100}, {"width": 1, "levels": 3}]:
            regular["limit"] = limit
            width, longest = regular["width"], regular["levels"] - 1
            for path in [None, True, False, 0, 1, -1, 10 ** 99, "", "0", "00", [], [0], [[0]], [()]]:
                case.fails(InvalidPath, {"index": -1}, call, path, **regular)
            for path in [(0,) * (longest + 1), (0,) * 1000, (width,) * (longest + 1), (None,) * (longest + 2)]:
                case.fails(InvalidPath, {"index": -1}, call, path, **regular)
            for entry in NO_NUMBERS + [-1, width, width + 1, 10 ** 99, -10 ** 99]:
                case.fails(InvalidPath, {"index": 0}, call, (entry,), **regular)
                case.fails(InvalidPath, {"index": 1}, call, (0, entry), **regular)
                case.fails(InvalidPath, {"index": 0}, call, (entry, width), **regular)
                case.fails(InvalidPath, {"index": longest - 1}, call, (0,) * (longest - 1) + (entry,), **regular)
            case.fails(InvalidPath, {"index": -1}, call, lists_of((0,) * longest), **regular)
    case.fails(InvalidPath, {"index": -1}, call, (0,), width=6, levels=1, limit=1)


if __name__ == "__main__":
    unittest.main()
