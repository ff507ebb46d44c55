"""Where two logs differ."""


def first_change(one, other):
    """The first position at which the logs differ, None if they are equal."""
    for position, (ours, theirs) in enumerate(zip(one, other)):
        if ours != theirs:
            return position
    if len(one) == len(other):
        return None
    return min(len(one), len(other))
