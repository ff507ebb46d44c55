"""The kinds of values that several modules tell apart."""

GREATEST_LIMIT = 10 ** 30


def is_integer(value):
    """True for an integer that is not a Boolean."""
    return isinstance(value, int) and not isinstance(value, bool)


def is_between(value, low, high):
    """True for an integer from low to high."""
    return is_integer(value) and low <= value <= high


def is_limit(value):
    """True for a limit."""
    return is_between(value, 1, GREATEST_LIMIT)


def is_pair(value):
    """True for a tuple of two entries."""
    return isinstance(value, tuple) and len(value) == 2


def is_row(value):
    """True for a list or a tuple."""
    return isinstance(value, (list, tuple))


def is_labelled(value, labels):
    """True for a pair of one of the labels and a non-empty tuple."""
    return is_pair(value) and value[0] in labels and isinstance(value[1], tuple) and len(value[1]) > 0
