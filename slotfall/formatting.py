"""The texts of heaps, trees and logs."""


def format_heap(heap):
    """One line for each node: its outside references and its slots, or `free`."""
    return "\n".join([_heap_line(row, many) for row, many in zip(heap[0], heap[1])])


def format_tree(tree):
    """One line for each node: its children."""
    return "\n".join([format_log(row) for row in tree])


def format_log(log):
    """One line with the entries, `-` if there are none."""
    return " ".join([str(entry) for entry in log]) or "-"


def _heap_line(row, many):
    if row is None:
        return "free"
    return " ".join([str(many)] + ["-" if held is None else str(held) for held in row])
