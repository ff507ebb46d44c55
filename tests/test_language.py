"""The rules of the language subset that a look at the source can decide."""

import ast
import pathlib
import re
import unittest
import warnings

PACKAGE = pathlib.Path(__file__).resolve().parent.parent / "slotfall"
FILES = sorted(path for path in PACKAGE.rglob("*") if path.is_file() and "__pycache__" not in path.parts)

BUILTINS = set("""len range enumerate zip min max sum abs sorted reversed int str bool bytes list tuple dict set isinstance
    ord repr any all divmod Exception ValueError TypeError KeyError IndexError LookupError ZeroDivisionError
    ArithmeticError OverflowError RuntimeError NotImplementedError AttributeError""".split())
METHODS = set("""append clear copy count endswith extend find get index insert isalnum isalpha isdigit islower isspace
    isupper items join keys ljust lower lstrip partition pop remove replace reverse rfind rjust rpartition rsplit rstrip
    setdefault split splitlines startswith strip update upper values zfill bit_length""".split())
BARRED_NAMES = set("""register mro elements open input law version_info with_traceback add_note attrgetter breakpoint
    builtins compile copyright credits delattr dir eval exec exit gc globals help id importlib license locals
    methodcaller os quit super type vars hash next map round filter format print sys""".split())
BARRED_WORDS = re.compile(r"\b(type|typing|enum|Enum|IntEnum|Flag|Generic|Protocol|ABC|namedtuple|NamedTuple)\b")
NODES = (ast.Global, ast.Nonlocal, ast.AsyncFunctionDef, ast.GeneratorExp, ast.Yield, ast.YieldFrom, ast.Div, ast.Lambda,
         ast.AnnAssign, ast.Set, ast.SetComp, ast.NamedExpr, ast.With, ast.Match, ast.Assert, ast.Delete)


class LanguageTest(unittest.TestCase):
    def sources(self):
        for path in FILES:
            text = path.read_text(encoding="utf-8")
            with warnings.catch_warnings():
                warnings.simplefilter("error")
                yield path, text, ast.parse(text)

    def walk(self, *kinds):
        for path, _, tree in self.sources():
            for found in ast.walk(tree):
                if isinstance(found, kinds):
                    yield f"{path.name}:{getattr(found, 'lineno', 0)}", found

    def test_files(self):
        self.assertIn(PACKAGE / "__init__.py", FILES)
        for path in FILES:
            self.assertEqual(path.suffix, ".py")
            self.assertRegex(path.stem, r"^([a-z][a-z0-9_]*|__init__|__main__)$")

    def test_sizes_and_characters(self):
        for path, text, tree in self.sources():
            lines = text.split("\n")
            self.assertLessEqual(len(lines), 399, path.name)
            self.assertLessEqual(max(len(line) for line in lines), 120, path.name)
            self.assertRegex(text, r"\A[ -~\n]*\Z", path.name)
        for place, found in self.walk(ast.FunctionDef):
            self.assertLessEqual(found.end_lineno - found.lineno + 1, 40, place)

    def test_module_level(self):
        for path, _, tree in self.sources():
            for index, found in enumerate(tree.body):
                docstring = index == 0 and isinstance(found, ast.Expr) and isinstance(found.value, ast.Constant)
                plain = (ast.ImportFrom, ast.FunctionDef, ast.ClassDef, ast.Assign)
                self.assertTrue(docstring or isinstance(found, plain), f"{path.name}:{found.lineno}")

    def test_imports(self):
        for place, _ in self.walk(ast.Import):
            self.fail(place)
        for place, found in self.walk(ast.ImportFrom):
            self.assertEqual(found.level, 0, place)
            if found.module == "math":
                defined = {"gcd", "lcm", "isqrt", "comb", "perm", "factorial"}
            else:
                self.assertTrue(found.module.startswith("slotfall."), place)
                body = ast.parse((PACKAGE / (found.module.split(".")[1] + ".py")).read_text()).body
                defined = {node.name for node in body if hasattr(node, "name")}
                defined |= {target.id for node in body if isinstance(node, ast.Assign) for target in node.targets}
            for name in found.names:
                self.assertIn(name.name, defined, place)
                self.assertIsNone(name.asname, place)

    def test_the_library_is_only_called(self):
        for path, _, tree in self.sources():
            taken = {name.name for found in tree.body if isinstance(found, ast.ImportFrom) and found.module == "math"
                     for name in found.names}
            calls = [found for found in ast.walk(tree) if isinstance(found, ast.Call) and not found.keywords]
            called = [found.func for found in calls if isinstance(found.func, ast.Name)]
            for found in ast.walk(tree):
                if isinstance(found, ast.Name) and found.id in taken:
                    self.assertIn(found, called, path.name)

    def test_no_two_files_import_from_each_other(self):
        needs = {path.stem: set() for path in FILES}
        for path, _, tree in self.sources():
            for found in ast.walk(tree):
                if isinstance(found, ast.ImportFrom) and found.module.startswith("slotfall."):
                    needs[path.stem].add(found.module.split(".")[1])
        while needs:
            free = [name for name in needs if not needs[name] & set(needs)]
            self.assertTrue(free, f"a circle of imports among {sorted(needs)}")
            for name in free:
                del needs[name]

    def test_what_the_program_does_without(self):
        # The subset allows most of these in some places; the program has not needed them yet.
        for place, found in self.walk(*NODES):
            self.fail(f"{place}: {type(found).__name__}")

    def test_builtins_and_methods(self):
        for path, _, tree in self.sources():
            bound = {n.name for n in ast.walk(tree) if isinstance(n, (ast.FunctionDef, ast.ClassDef))}
            bound |= {n.arg for n in ast.walk(tree) if isinstance(n, ast.arg)}
            bound |= {n.id for n in ast.walk(tree) if isinstance(n, ast.Name) and isinstance(n.ctx, ast.Store)}
            bound |= {n.name for found in ast.walk(tree) if isinstance(found, ast.ImportFrom) for n in found.names}
            bound |= {n.name for n in ast.walk(tree) if isinstance(n, ast.ExceptHandler)}
            self.assertFalse(bound & (BUILTINS | BARRED_NAMES), path.name)
            used = {n.id for n in ast.walk(tree) if isinstance(n, ast.Name)}
            self.assertFalse(used - bound - BUILTINS, path.name)
        own = {found.name for _, found in self.walk(ast.FunctionDef)}
        for place, found in self.walk(ast.Call):
            if isinstance(found.func, ast.Attribute):
                self.assertIn(found.func.attr, METHODS | own, place)

    def test_imported_names_are_not_hidden(self):
        for path, _, tree in self.sources():
            outer = {n.name for found in tree.body if isinstance(found, ast.ImportFrom) for n in found.names}
            outer |= {found.name for found in tree.body if isinstance(found, (ast.FunctionDef, ast.ClassDef))}
            for found in ast.walk(tree):
                if isinstance(found, ast.arg):
                    self.assertNotIn(found.arg, outer, path.name)
                if isinstance(found, ast.Name) and isinstance(found.ctx, ast.Store):
                    self.assertNotIn(found.id, outer, path.name)

    def test_names_and_strings(self):
        for place, found in self.walk(ast.Name, ast.arg, ast.Attribute, ast.FunctionDef, ast.ClassDef):
            name = getattr(found, "id", None) or getattr(found, "arg", None) or getattr(found, "attr", None)
            name = name or found.name
            self.assertRegex(name, r"^(_?[A-Za-z][A-Za-z0-9_]*|_|__(init|len|eq|str|repr)__)$", place)
            self.assertNotRegex(name, r"^_(wall|pe_|dcw_|enum_|cm_|twin_re_|lay_|law_|stub_|sre|outside|record)", place)
        for place, found in self.walk(ast.Constant):
            self.assertNotIsInstance(found.value, (float, complex), place)
            if isinstance(found.value, str):
                self.assertNotIn(chr(37), found.value, place)

    def test_barred_words(self):
        for path, text, tree in self.sources():
            for found in ast.walk(tree):
                if isinstance(found, (ast.Module, ast.FunctionDef, ast.ClassDef)) and ast.get_docstring(found):
                    found.body[0].value.value = ""
            self.assertIsNone(BARRED_WORDS.search(ast.unparse(tree)), path.name)

    def test_functions(self):
        for place, found in self.walk(ast.FunctionDef):
            self.assertEqual(found.decorator_list, [], place)
            for default in found.args.defaults + [value for value in found.args.kw_defaults if value is not None]:
                for part in ast.walk(default):
                    self.assertIsInstance(part, (ast.Constant, ast.Tuple, ast.Load), place)

    def test_stars(self):
        # Only the last argument of a call and the last parameter of a function have one.
        in_calls = 0
        for place, found in self.walk(ast.Call):
            if any(isinstance(argument, ast.Starred) for argument in found.args):
                in_calls += 1
                self.assertFalse(any(isinstance(argument, ast.Starred) for argument in found.args[:-1]), place)
                self.assertEqual((type(found.args[-1].value), found.keywords), (ast.Name, []), place)
        self.assertEqual(len(list(self.walk(ast.Starred))), in_calls)
        for place, found in self.walk(ast.FunctionDef):
            self.assertIsNone(found.args.kwarg, place)

    def test_errors_are_caught_by_name(self):
        own = {found.name for place, found in self.walk(ast.ClassDef) if place.startswith("errors.py")}
        own -= {"HeapError", "MissingError"}
        for place, found in self.walk(ast.ExceptHandler):
            self.assertIn(getattr(found.type, "id", None), own, place)
        for place, found in self.walk(ast.Raise):
            self.assertIn(getattr(getattr(found.exc, "func", None), "id", None), own, place)
        for place, found in self.walk(ast.Try):
            for end in found.finalbody:
                self.assertIsInstance(end, ast.Assign, place)
                self.assertIsInstance(end.value, ast.Constant, place)

    def test_special_methods(self):
        for place, found in self.walk(ast.FunctionDef):
            if found.name in ("__len__", "__eq__", "__str__", "__repr__"):
                self.assertEqual([type(part) for part in found.body], [ast.Return], place)
            if found.name == "__len__":
                self.assertEqual(found.body[0].value.func.id, "len", place)
            if found.name in ("__str__", "__repr__"):
                told = found.body[0].value
                self.assertTrue(isinstance(told, ast.JoinedStr) or told.func.id == "str", place)
        for place, found in self.walk(ast.JoinedStr):
            for part in found.values:
                if isinstance(part, ast.FormattedValue):
                    inner = [type(found) for found in ast.walk(part)]
                    self.assertFalse({ast.JoinedStr, ast.Constant} & set(inner), place)


if __name__ == "__main__":
    unittest.main()
