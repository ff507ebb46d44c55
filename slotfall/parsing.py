"""Heaps, trees and logs read from their texts."""

from slotfall.errors import InvalidHeap, InvalidTree, ParseError
from slotfall.heaps import MOST_NODES, MOST_OUTSIDE, MOST_SLOTS, make_heap
from slotfall.trees import make_tree
from slotfall.words import is_number_below


def parse_heap(text):
    """The heap with this text."""
    if text == "":
        return ((), ())
    rows = _rows_of(text, _is_heap_word)
    slots = [_slots_in(row) for row in rows]
    outside = [0 if row[0] == "free" else int(row[0]) for row in rows]
    try:
        return make_heap(slots, outside)
    except InvalidHeap as problem:
        raise ParseError(problem.node, 0) from None


def parse_tree(text):
    """The tree with this text."""
    rows = _rows_of(text, _is_tree_word)
    children = [[] if row == ["-"] else [int(word) for word in row] for row in rows]
    try:
        return make_tree(children)
    except InvalidTree as problem:
        # Without any root there is no node to blame, and so no line.
        raise ParseError(max(problem.node, 0), 0) from None


def parse_log(text):
    """The tuple of the numbers in this text."""
    words = text.split(" ")
    if words[0] == "-":
        if len(words) > 1:
            raise ParseError(0, 1)
        return ()
    for place, word in enumerate(words):
        if not is_number_below(word, MOST_NODES) or word in words[:place]:
            raise ParseError(0, place)
    return tuple([int(word) for word in words])


def _rows_of(text, is_valid):
    """The words of each line, if all of them are valid where they stand."""
    rows = [line.split(" ") for line in text.split("\n")]
    for line, row in enumerate(rows):
        for place in range(len(row)):
            # There is no node for a line beyond the last possible one, whatever stands in it.
            if line >= MOST_NODES or not is_valid(row, place, len(rows)):
                raise ParseError(line, place)
    return rows


def _is_heap_word(row, place, many):
    word = row[place]
    if place == 0:
        return word == "free" or is_number_below(word, MOST_OUTSIDE + 1)
    if row[0] == "free" or place > MOST_SLOTS:
        return False
    return word == "-" or is_number_below(word, many)


def _is_tree_word(row, place, many):
    if place == 0 and row[0] == "-":
        return True
    return row[0] != "-" and is_number_below(row[place], many)


def _slots_in(row):
    if row[0] == "free":
        return None
    return [None if word == "-" else int(word) for word in row[1:]]
