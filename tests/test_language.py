"""Some of the rules for the program's files: sizes, signs, words, imports, names. The others are not tested here."""

import ast
import os
import re
import unittest

PACKAGE = os.path.join(os.path.dirname(os.path.dirname(os.path.abspath(__file__))), "asifalone")

BARRED_WORDS = re.compile(
    r"\b(type|typing|typing_extensions|enum|Enum|IntEnum|StrEnum|Flag|IntFlag|Generic|Protocol|ABC|ABCMeta|namedtuple"
    r"|NamedTuple|TypedDict|TYPE_CHECKING|abstractmethod)\b|dataclass|overload|contextmanager"
)

BUILTINS = set(
    "len range enumerate zip min max sum abs sorted reversed int str bool bytes list tuple dict set frozenset"
    " isinstance ord repr any all divmod iter next super property staticmethod classmethod".split()
)

TAKE_LISTS = {"any", "all", "min", "max", "sum", "sorted"}


def files():
    """Name, text and tree of each file of the package."""
    told = []
    for name in sorted(os.listdir(PACKAGE)):
        if name != "__pycache__":
            with open(os.path.join(PACKAGE, name), encoding="utf-8", newline="") as held:
                text = held.read()
            told.append((name, text, ast.parse(text)))
    return told


class Language(unittest.TestCase):
    def test_files(self):
        names = [name for name, text, tree in files()]
        self.assertIn("__init__.py", names)
        for name, text, tree in files():
            self.assertRegex(name, r"^[a-z][a-z0-9_]*\.py$|^__init__\.py$")
            self.assertLessEqual(len(text.splitlines()), 399, name)
            self.assertRegex(text, r"\A[ -~\n]*\Z", name)
            self.assertNotIn("%", text, name)
            self.assertIsNone(BARRED_WORDS.search(text), name)
            for line in text.splitlines():
                self.assertLessEqual(len(line), 120, (name, line))

    def test_module_level(self):
        kinds = (ast.FunctionDef, ast.ClassDef, ast.ImportFrom, ast.Assign, ast.Expr)
        for name, text, tree in files():
            for row in tree.body:
                self.assertIsInstance(row, kinds, (name, row.lineno))
                if isinstance(row, ast.Expr):
                    self.assertIsInstance(row.value, ast.Constant, (name, row.lineno))

    def test_imports(self):
        for name, text, tree in files():
            for row in ast.walk(tree):
                self.assertNotIsInstance(row, ast.Import)
                if isinstance(row, ast.ImportFrom):
                    self.assertIn(row, tree.body, name)
                    self.assertEqual(row.level, 0, name)
                    self.assertTrue(row.module.startswith("asifalone."), (name, row.module))

    def test_functions(self):
        for name, text, tree in files():
            for row in ast.walk(tree):
                if isinstance(row, ast.FunctionDef):
                    self.assertLessEqual(row.end_lineno - row.lineno + 1, 40, (name, row.name))
                    self.assertEqual(row.args.posonlyargs, [], (name, row.name))

    def test_names(self):
        for name, text, tree in files():
            for row in ast.walk(tree):
                for field in ("id", "attr", "arg", "name"):
                    word = getattr(row, field, None)
                    if isinstance(word, str) and word != "__init__":
                        self.assertFalse(word.startswith("_"), (name, word))
                if isinstance(row, ast.Name) and isinstance(row.ctx, ast.Store):
                    self.assertNotIn(row.id, BUILTINS, name)

    def test_expressions(self):
        barred = (ast.Div, ast.Global, ast.AsyncFunctionDef, ast.Await)
        for name, text, tree in files():
            for row in ast.walk(tree):
                self.assertNotIsInstance(row, barred, (name, getattr(row, "lineno", None)))
                if isinstance(row, ast.Constant):
                    self.assertNotIsInstance(row.value, (float, complex), name)
                if isinstance(row, ast.Call) and isinstance(row.func, ast.Name) and row.func.id in TAKE_LISTS:
                    self.assertEqual([given for given in row.args if isinstance(given, ast.GeneratorExp)], [], name)


if __name__ == "__main__":
    unittest.main()
