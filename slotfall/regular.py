"""Regular trees, in which every node of each level but the last has the same number of children.

The levels are cut into blocks, each with as many levels as the limit. From the root of a block on, the log
has the nodes of the block in preorder; then come the trees below the block, the last one first.
"""

from slotfall.errors import InvalidPath, NoPosition, TooMany
from slotfall.kinds import is_between
from slotfall.shapes import tree_with_log
from slotfall.trees import MOST_TREE_NODES


def regular_size(*, width, levels):
    """The number of nodes."""
    return _sizes(width, levels)[levels]


def regular_tree(*, width, levels):
    """The regular tree, its nodes numbered in preorder."""
    if regular_size(width=width, levels=levels) > MOST_TREE_NODES:
        raise TooMany(MOST_TREE_NODES)
    shape = (0,)
    for _ in range(levels - 1):
        shape = (width,) + shape * width
    # With a limit as great as the number of nodes, the log is the preorder.
    return tree_with_log(shape, tuple(range(len(shape))), limit=len(shape))


def regular_peak(*, width, levels, limit):
    """The peak of dropping the root, and the first position of the log behind which the shelf is so long."""
    block = _block_levels(levels, limit)
    blocks_below = (levels - 1) // block
    if blocks_below < 1:
        return (0, 0)
    sizes = _sizes(width, levels)
    far = sizes[block + 1] - sizes[block]
    if far == 1:
        # The shelf never has more than one node, and the first one comes from the last node of the first block.
        return (1, sizes[block] - 1)
    # All of the far nodes but the one that is taken stay on the shelf below those of the next block.
    return (blocks_below * (far - 1) + 1, blocks_below * sizes[block] - 1)


def position_of(path, *, width, levels, limit):
    """The position of the node in the log."""
    _check_path(path, width, levels)
    sizes = _sizes(width, levels)
    block = _block_levels(levels, limit)
    position = 0
    left = levels
    rest = path
    while len(rest) >= block:
        left -= block
        position += sizes[block] + _trees_before(rest[:block], width) * sizes[left]
        rest = rest[block:]
    below = min(block, left)
    for slot in rest:
        below -= 1
        position += 1 + slot * sizes[below]
    return position


def path_at(position, *, width, levels, limit):
    """The path of the node at this position of the log."""
    sizes = _sizes(width, levels)
    if not is_between(position, 0, sizes[levels] - 1):
        raise NoPosition(position)
    block = _block_levels(levels, limit)
    path = []
    left = levels
    rest = position
    while rest >= sizes[min(block, left)]:
        left -= block
        before, rest = divmod(rest - sizes[block], sizes[left])
        path.extend(_slots_behind(before, width, block))
    below = min(block, left)
    while rest > 0:
        below -= 1
        slot, rest = divmod(rest - 1, sizes[below])
        path.append(slot)
    return tuple(path)


def next_path(path, *, width, levels, limit):
    """The path of the node that comes next in the log, None for the last one."""
    position = position_of(path, width=width, levels=levels, limit=limit) + 1
    if position == regular_size(width=width, levels=levels):
        return None
    return path_at(position, width=width, levels=levels, limit=limit)


def _sizes(width, levels):
    """The sizes of the regular trees of this width with 0, 1, .. levels."""
    sizes = [0]
    for _ in range(levels):
        sizes.append(sizes[-1] * width + 1)
    return sizes


def _block_levels(levels, limit):
    """How many levels a full block has; a limit beyond the last level changes nothing."""
    return max(1, min(limit, levels))


def _trees_before(slots, width):
    """How many of the trees below a block come before the one to which these slots lead."""
    before = 0
    for slot in slots:
        before = before * width + width - 1 - slot
    return before


def _slots_behind(before, width, block):
    """The slots that lead to the tree below a block that so many others come before."""
    slots = []
    rest = before
    for _ in range(block):
        rest, digit = divmod(rest, width)
        slots.append(width - 1 - digit)
    return slots[::-1]


def _check_path(path, width, levels):
    if not isinstance(path, tuple) or len(path) > levels - 1:
        raise InvalidPath(-1)
    for index, slot in enumerate(path):
        if not is_between(slot, 0, width - 1):
            raise InvalidPath(index)
