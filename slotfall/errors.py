"""The errors of the library; each keeps what it was created with, unread."""


class HeapError(ValueError):
    """The base of the errors about wrong values."""


class MissingError(LookupError):
    """The base of the errors about what is not there."""


class InvalidHeap(HeapError):
    """Slots and outside references that are not a heap."""

    def __init__(self, reason, node):
        self.reason = reason
        self.node = node


class InvalidTree(HeapError):
    """Children that are not a tree."""

    def __init__(self, reason, node):
        self.reason = reason
        self.node = node


class InvalidLogs(HeapError):
    """Logs that do not determine a tree."""

    def __init__(self, reason, index):
        self.reason = reason
        self.index = index


class InvalidCertificate(HeapError):
    """A value that does not prove what it should."""

    def __init__(self, reason, index):
        self.reason = reason
        self.index = index


class InvalidPath(HeapError):
    """A value that is not the path of a node."""

    def __init__(self, index):
        self.index = index


class InvalidLimit(HeapError):
    """A value that is not a limit."""

    def __init__(self, value):
        self.value = value


class InvalidWidth(HeapError):
    """A value that is not a number of slots."""

    def __init__(self, value):
        self.value = value


class Mismatch(HeapError):
    """Two values that do not fit together."""

    def __init__(self, reason):
        self.reason = reason


class TooMany(HeapError):
    """More than the function can list."""

    def __init__(self, most):
        self.most = most


class Full(HeapError):
    """No room for one more."""

    def __init__(self, most):
        self.most = most


class Busy(HeapError):
    """An action while the observer is being called."""


class ParseError(HeapError):
    """A text with an invalid word."""

    def __init__(self, line, word):
        self.line = line
        self.word = word


class UnknownCommand(HeapError):
    """A value that is not a command."""

    def __init__(self, command):
        self.command = command


class NoNode(MissingError):
    """A value that is not a live node."""

    def __init__(self, node):
        self.node = node


class NoReference(MissingError):
    """A node without an outside reference."""

    def __init__(self, node):
        self.node = node


class NoSlot(MissingError):
    """A value that is not the number of a slot of the node."""

    def __init__(self, slot):
        self.slot = slot


class NotFreed(MissingError):
    """A value that is not a destroyed node."""

    def __init__(self, node):
        self.node = node


class NoPosition(MissingError):
    """A value that is not a position."""

    def __init__(self, position):
        self.position = position


class UndoError(MissingError):
    """A number of actions that cannot be undone."""

    def __init__(self, count):
        self.count = count
