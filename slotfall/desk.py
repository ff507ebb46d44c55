"""A desk, which executes commands on a store."""

from slotfall.commands import COMMANDS, fits
from slotfall.errors import UnknownCommand
from slotfall.parsing import parse_heap
from slotfall.store import Store
from slotfall.words import is_number

MOST_DIGITS = 80


class Desk:
    """Executes commands on a store, which begins with the heap that the text represents."""

    def __init__(self, text=""):
        self._store = Store(parse_heap(text))

    def execute(self, command):
        """The output of the command."""
        name, arguments = _read(command)
        action = COMMANDS[name][2]
        return action(self._store, *arguments)


def _read(command):
    """The name and the arguments of the command."""
    words = command.split(" ") if isinstance(command, str) else [""]
    name = words[0]
    if name in COMMANDS and all([_is_argument(name, place, word) for place, word in enumerate(words[1:])]):
        arguments = [None if word == "-" else int(word) for word in words[1:]]
        if fits(name, arguments):
            return (name, arguments)
    raise UnknownCommand(command)


def _is_argument(name, place, word):
    if word == "-":
        return name == "put" and place == 2
    return len(word) <= MOST_DIGITS and is_number(word)
