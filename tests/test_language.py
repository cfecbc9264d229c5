"""Some of the rules for the program's files: sizes, signs, words, imports, names, builtins, classes, comparisons.
The others are not tested here."""

import ast
import builtins
import os
import re
import unittest

PACKAGE = os.path.join(os.path.dirname(os.path.dirname(os.path.abspath(__file__))), "asifalone")

BARRED_WORDS = re.compile(
    r"\b(type|typing|typing_extensions|enum|Enum|IntEnum|StrEnum|Flag|IntFlag|Generic|Protocol|ABC|ABCMeta|namedtuple"
    r"|NamedTuple|TypedDict|TYPE_CHECKING|abstractmethod)\b|dataclass|overload|contextmanager"
)

BUILTINS = set(
    "len range enumerate zip min max sum abs sorted reversed int str bool bytes list tuple dict set frozenset"
    " isinstance ord repr any all divmod iter next super property staticmethod classmethod".split()
)

ERRORS = {"ValueError", "TypeError", "KeyError", "IndexError", "LookupError", "NotImplemented"}

METHODS = set(
    "append clear copy count endswith extend find get index insert isalnum isalpha isdigit islower isspace isupper"
    " items join keys ljust lower lstrip partition pop remove replace reverse rfind rjust rpartition rsplit rstrip"
    " setdefault split splitlines startswith strip update upper values zfill bit_length isascii __init__".split()
)

SPECIAL = {"__init__", "__eq__", "__str__"}

CHANGING = (ast.Assign, ast.AugAssign, ast.AnnAssign, ast.Delete, ast.NamedExpr)

TAKE_LISTS = {"any", "all", "min", "max", "sum", "sorted"}


def files():
    """Name, text and tree of each file of the package."""
    told = []
    for name in sorted(os.listdir(PACKAGE)):
        if name != "__pycache__":
            with open(os.path.join(PACKAGE, name), encoding="utf-8", newline="") as held:
                text = held.read()
            told.append((name, text, ast.parse(text)))
    return told


class Language(unittest.TestCase):
    def test_files(self):
        names = [name for name, text, tree in files()]
        self.assertIn("__init__.py", names)
        for name, text, tree in files():
            self.assertRegex(name, r"^[a-z][a-z0-9_]*\.py$|^__init__\.py$")
            self.assertLessEqual(len(text.splitlines()), 399, name)
            self.assertRegex(text, r"\A[ -~\n]*\Z", name)
            self.assertNotIn("%", text, name)
            self.assertIsNone(BARRED_WORDS.search(text), name)
            for line in text.splitlines():
                self.assertLessEqual(len(line), 120, (name, line))

    def test_module_level(self):
        kinds = (ast.FunctionDef, ast.ClassDef, ast.ImportFrom, ast.Assign, ast.Expr)
        for name, text, tree in files():
            for row in tree.body:
                self.assertIsInstance(row, kinds, (name, row.lineno))
                if isinstance(row, ast.Expr):
                    self.assertIsInstance(row.value, ast.Constant, (name, row.lineno))

    def test_imports(self):
        for name, text, tree in files():
            for row in ast.walk(tree):
                self.assertNotIsInstance(row, ast.Import)
                if isinstance(row, ast.ImportFrom):
                    self.assertIn(row, tree.body, name)
                    self.assertEqual(row.level, 0, name)
                    self.assertTrue(row.module.startswith("asifalone."), (name, row.module))

    def test_functions(self):
        for name, text, tree in files():
            for row in ast.walk(tree):
                if isinstance(row, ast.FunctionDef):
                    self.assertLessEqual(row.end_lineno - row.lineno + 1, 40, (name, row.name))
                    self.assertEqual(row.args.posonlyargs, [], (name, row.name))

    def test_names(self):
        for name, text, tree in files():
            for row in ast.walk(tree):
                for field in ("id", "attr", "arg", "name"):
                    word = getattr(row, field, None)
                    if isinstance(word, str) and word not in SPECIAL:
                        self.assertFalse(word.startswith("_"), (name, word))
                if isinstance(row, ast.Name) and isinstance(row.ctx, ast.Store):
                    self.assertNotIn(row.id, BUILTINS, name)

    def test_no_name_of_a_builtin_or_an_import_is_given_another_meaning(self):
        for name, text, tree in files():
            taken = set(dir(builtins))
            for row in tree.body:
                if isinstance(row, ast.ImportFrom):
                    taken |= {alias.name for alias in row.names}
                if isinstance(row, ast.ClassDef):
                    taken.add(row.name)
            for row in ast.walk(tree):
                if isinstance(row, ast.arg):
                    self.assertNotIn(row.arg, taken, (name, row.lineno))
                if isinstance(row, ast.Name) and isinstance(row.ctx, ast.Store):
                    self.assertNotIn(row.id, taken, (name, row.lineno))
                if isinstance(row, ast.FunctionDef):
                    self.assertNotIn(row.name, taken, (name, row.lineno))

    def test_builtins(self):
        for name, text, tree in files():
            for row in ast.walk(tree):
                if isinstance(row, ast.Name) and hasattr(builtins, row.id):
                    self.assertIn(row.id, BUILTINS | ERRORS, (name, row.lineno))

    def test_imports_name_the_file_that_defines_and_are_used(self):
        defined = {}
        for name, text, tree in files():
            rows = {row.name for row in tree.body if isinstance(row, (ast.FunctionDef, ast.ClassDef))}
            rows |= {row.targets[0].id for row in tree.body if isinstance(row, ast.Assign)}
            defined["asifalone." + name[:-3]] = rows
        for name, text, tree in files():
            used = {row.id for row in ast.walk(tree) if isinstance(row, ast.Name)}
            for row in tree.body:
                if isinstance(row, ast.ImportFrom):
                    for alias in row.names:
                        self.assertIsNone(alias.asname, name)
                        self.assertIn(alias.name, defined[row.module], (name, row.module))
                        self.assertIn(alias.name, used, (name, row.module))

    def test_no_two_files_import_from_each_other(self):
        above = {}
        for name, text, tree in files():
            above[name[:-3]] = {row.module[10:] for row in tree.body if isinstance(row, ast.ImportFrom)}
        left = dict(above)
        while left:
            ready = [name for name in left if not left[name] & set(left)]
            self.assertTrue(ready, left)
            for name in ready:
                del left[name]

    def test_classes(self):
        methods, stored, told, read = set(), set(), set(), set()
        for name, text, tree in files():
            for row in ast.walk(tree):
                if isinstance(row, ast.ClassDef):
                    self.assertIn(row, tree.body, name)
                    self.assertEqual(row.decorator_list, [], name)
                    for part in row.body:
                        self.assertIsInstance(part, (ast.FunctionDef, ast.Expr), (name, part.lineno))
                        if isinstance(part, ast.FunctionDef):
                            marks = [mark.id for mark in part.decorator_list]
                            self.assertIn(marks, ([], ["property"]), (name, part.name))
                            (told if marks else methods).add(part.name)
                if isinstance(row, ast.Attribute):
                    (stored if isinstance(row.ctx, ast.Store) else read).add(row.attr)
        self.assertEqual(methods & (stored | told), set())
        self.assertEqual(told & stored, set())
        self.assertLessEqual(read, methods | stored | told | METHODS)
        self.assertEqual((stored | told) & METHODS, set())

    def test_special_methods(self):
        for name, text, tree in files():
            for row in ast.walk(tree):
                if isinstance(row, ast.FunctionDef) and row.name.startswith("__"):
                    self.assertIn(row.name, SPECIAL, name)
                    if row.name != "__init__":
                        self.assertIsInstance(row.body[-1], ast.Return, (name, row.lineno))
                        for part in ast.walk(row):
                            self.assertNotIsInstance(part, CHANGING, (name, row.lineno))

    def test_comparisons(self):
        for name, text, tree in files():
            for row in ast.walk(tree):
                if isinstance(row, ast.Compare):
                    for sign, right in zip(row.ops, row.comparators):
                        if isinstance(sign, (ast.Is, ast.IsNot)):
                            self.assertIsInstance(right, ast.Constant, (name, row.lineno))
                            self.assertIn(right.value, (None, True, False), (name, row.lineno))

    def test_loops_do_not_change_what_they_go_over(self):
        changing = {"append", "clear", "extend", "insert", "pop", "remove", "reverse", "setdefault", "update"}
        for name, text, tree in files():
            for row in ast.walk(tree):
                if not isinstance(row, ast.For):
                    continue
                over = {ast.dump(part) for part in ast.walk(row.iter) if isinstance(part, (ast.Name, ast.Attribute))}
                for part in [part for line in row.body for part in ast.walk(line)]:
                    if isinstance(part, ast.Call) and isinstance(part.func, ast.Attribute) and part.func.attr in changing:
                        self.assertNotIn(ast.dump(part.func.value), over, (name, part.lineno))

    def test_expressions(self):
        barred = (ast.Div, ast.Global, ast.AsyncFunctionDef, ast.Await, ast.GeneratorExp, ast.Try, ast.Lambda)
        for name, text, tree in files():
            for row in ast.walk(tree):
                self.assertNotIsInstance(row, barred, (name, getattr(row, "lineno", None)))
                if isinstance(row, ast.Constant):
                    self.assertNotIsInstance(row.value, (float, complex), name)
                if isinstance(row, ast.Call) and isinstance(row.func, ast.Name) and row.func.id in TAKE_LISTS:
                    self.assertEqual([given for given in row.args if isinstance(given, ast.GeneratorExp)], [], name)


if __name__ == "__main__":
    unittest.main()
