"""Point 14: the error classes."""

import unittest

from slotfall import errors

HEAP_ERRORS = {
    "InvalidHeap": ["reason", "node"], "InvalidTree": ["reason", "node"], "InvalidLogs": ["reason", "index"],
    "InvalidCertificate": ["reason", "index"], "InvalidPath": ["index"], "InvalidLimit": ["value"],
    "InvalidWidth": ["value"], "Mismatch": ["reason"], "TooMany": ["most"], "Full": ["most"], "Busy": [],
    "ParseError": ["line", "word"], "UnknownCommand": ["command"],
}
MISSING_ERRORS = {
    "NoNode": ["node"], "NoReference": ["node"], "NoSlot": ["slot"], "NotFreed": ["node"],
    "NoPosition": ["position"], "UndoError": ["count"],
}
FAMILIES = [(errors.HeapError, ValueError, HEAP_ERRORS), (errors.MissingError, LookupError, MISSING_ERRORS)]


class Unreadable:
    """An argument that cannot be looked at."""

    def refuse(self, *_):
        raise AssertionError("an error looked at its argument")

    __eq__ = __bool__ = __len__ = __str__ = __repr__ = __iter__ = __hash__ = refuse


class ErrorsTest(unittest.TestCase):
    def each(self):
        for base, builtin, names in FAMILIES:
            for name, arguments in names.items():
                yield base, builtin, getattr(errors, name), arguments

    def test_bases(self):
        self.assertEqual(errors.HeapError.__bases__, (ValueError,))
        self.assertEqual(errors.MissingError.__bases__, (LookupError,))

    def test_all_are_direct_subclasses(self):
        for base, _, names in FAMILIES:
            self.assertEqual(sorted(found.__name__ for found in base.__subclasses__()), sorted(names))
        for base, _, error, _ in self.each():
            self.assertEqual(error.__bases__, (base,))
            self.assertEqual(error.__module__, "slotfall.errors")

    def test_by_position(self):
        for _, _, error, arguments in self.each():
            values = [Unreadable() for _ in arguments]
            made = error(*values)
            self.assertEqual(sorted(vars(made)), sorted(arguments))
            for name, value in zip(arguments, values):
                self.assertIs(getattr(made, name), value)

    def test_by_name(self):
        for _, _, error, arguments in self.each():
            values = {name: Unreadable() for name in reversed(arguments)}
            made = error(**values)
            self.assertEqual(sorted(vars(made)), sorted(arguments))
            for name in arguments:
                self.assertIs(getattr(made, name), values[name])

    def test_every_kind_of_argument(self):
        for _, _, error, arguments in self.each():
            for value in [None, True, -1, 10 ** 99, "a", [1], (), ([],)]:
                made = error(*[value for _ in arguments])
                for name in arguments:
                    self.assertIs(getattr(made, name), value)

    def test_wrong_number_of_arguments(self):
        for _, _, error, arguments in self.each():
            if arguments:
                self.assertRaises(TypeError, error, *arguments[1:])
                self.assertRaises(TypeError, error, *arguments, 0)

    def test_handlers_of_the_bases(self):
        for base, builtin, error, arguments in self.each():
            for caught in (base, builtin, error):
                try:
                    raise error(*arguments)
                except caught as found:
                    self.assertIs(type(found), error)

    def test_the_families_are_apart(self):
        for base, _, error, _ in self.each():
            other = errors.MissingError if base is errors.HeapError else errors.HeapError
            self.assertFalse(issubclass(error, other))


if __name__ == "__main__":
    unittest.main()
