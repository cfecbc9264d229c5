"""Rules for the program's files: sizes, signs, words, imports, names, builtins, classes, comparisons, loops, sets,
calls, texts. Where a rule allows what the program does without, the tests bar it wholly; what only a reader can see is
not tested here."""

import ast
import builtins
import os
import re
import unittest
import warnings

PACKAGE = os.path.join(os.path.dirname(os.path.dirname(os.path.abspath(__file__))), "asifalone")

BARRED_WORDS = re.compile(
    r"\b(type|typing|typing_extensions|enum|Enum|IntEnum|StrEnum|Flag|IntFlag|Generic|Protocol|ABC|ABCMeta|namedtuple"
    r"|NamedTuple|TypedDict|TYPE_CHECKING|abstractmethod)\b|dataclass|overload|contextmanager"
)

BUILTINS = set(
    "len range enumerate zip min max sum abs sorted reversed int str bool bytes list tuple dict set frozenset"
    " isinstance ord repr any all divmod iter next super property staticmethod classmethod".split()
)

ERRORS = {"ValueError", "TypeError", "KeyError", "IndexError", "LookupError", "NotImplemented"}

METHODS = set(
    "append clear copy count endswith extend find get index insert isalnum isalpha isdigit islower isspace isupper"
    " items join keys ljust lower lstrip partition pop remove replace reverse rfind rjust rpartition rsplit rstrip"
    " setdefault split splitlines startswith strip update upper values zfill bit_length isascii __init__".split()
)

SPECIAL = {"__init__", "__eq__", "__str__"}

CHANGING = (ast.Assign, ast.AugAssign, ast.AnnAssign, ast.Delete, ast.NamedExpr)

TAKE_LISTS = {"any", "all", "min", "max", "sum", "sorted"}

AT_ONCE = {"zip", "enumerate", "reversed", "range"}

# What may go over such a thing, beside a loop or a comprehension.
GOES_OVER = {"list", "tuple", "dict", "sorted", "sum", "any", "all", "enumerate", "zip"}

KEYWORDS = {
    "sorted": {"key", "reverse"}, "min": {"key", "default"}, "max": {"key", "default"}, "sum": {"start"},
    "enumerate": {"start"}, "zip": {"strict"},
}

NOWHERE = set(
    "register mro elements open input law version_info with_traceback add_note format format_map attrgetter breakpoint"
    " compile copyright credits delattr dir eval exec exit gc getattr globals hasattr help id importlib license locals"
    " methodcaller os quit setattr type vars sys".split()
)


def parents_of(tree):
    """For each part of a tree the one that it stands in."""
    return {part: row for row in ast.walk(tree) for part in ast.iter_child_nodes(row)}


def called(row):
    """The name that is called, where it is a plain one."""
    return row.func.id if isinstance(row, ast.Call) and isinstance(row.func, ast.Name) else None


def files():
    """Name, text and tree of each file of the package."""
    told = []
    for name in sorted(os.listdir(PACKAGE)):
        if name != "__pycache__":
            with open(os.path.join(PACKAGE, name), encoding="utf-8", newline="") as held:
                text = held.read()
            told.append((name, text, ast.parse(text)))
    return told


class Language(unittest.TestCase):
    def test_files(self):
        names = [name for name, text, tree in files()]
        self.assertIn("__init__.py", names)
        for name, text, tree in files():
            self.assertRegex(name, r"^[a-z][a-z0-9_]*\.py$|^__init__\.py$")
            self.assertLessEqual(len(text.splitlines()), 399, name)
            self.assertRegex(text, r"\A[ -~\n]*\Z", name)
            self.assertNotIn("%", text, name)
            self.assertIsNone(BARRED_WORDS.search(text), name)
            for line in text.splitlines():
                self.assertLessEqual(len(line), 120, (name, line))

    def test_module_level(self):
        kinds = (ast.FunctionDef, ast.ClassDef, ast.ImportFrom, ast.Assign, ast.Expr)
        for name, text, tree in files():
            for row in tree.body:
                self.assertIsInstance(row, kinds, (name, row.lineno))
                if isinstance(row, ast.Expr):
                    self.assertIsInstance(row.value, ast.Constant, (name, row.lineno))

    def test_imports(self):
        for name, text, tree in files():
            for row in ast.walk(tree):
                self.assertNotIsInstance(row, ast.Import)
                if isinstance(row, ast.ImportFrom):
                    self.assertIn(row, tree.body, name)
                    self.assertEqual(row.level, 0, name)
                    self.assertTrue(row.module.startswith("asifalone."), (name, row.module))

    def test_functions(self):
        for name, text, tree in files():
            for row in ast.walk(tree):
                if isinstance(row, ast.FunctionDef):
                    self.assertLessEqual(row.end_lineno - row.lineno + 1, 40, (name, row.name))
                    self.assertEqual(row.args.posonlyargs, [], (name, row.name))

    def test_names(self):
        for name, text, tree in files():
            for row in ast.walk(tree):
                for field in ("id", "attr", "arg", "name"):
                    word = getattr(row, field, None)
                    if isinstance(word, str) and word not in SPECIAL:
                        self.assertFalse(word.startswith("_"), (name, word))
                if isinstance(row, ast.Name) and isinstance(row.ctx, ast.Store):
                    self.assertNotIn(row.id, BUILTINS, name)

    def test_no_name_of_a_builtin_or_an_import_is_given_another_meaning(self):
        for name, text, tree in files():
            taken = set(dir(builtins))
            for row in tree.body:
                if isinstance(row, ast.ImportFrom):
                    taken |= {alias.name for alias in row.names}
                if isinstance(row, ast.ClassDef):
                    taken.add(row.name)
            for row in ast.walk(tree):
                if isinstance(row, ast.arg):
                    self.assertNotIn(row.arg, taken, (name, row.lineno))
                if isinstance(row, ast.Name) and isinstance(row.ctx, ast.Store):
                    self.assertNotIn(row.id, taken, (name, row.lineno))
                if isinstance(row, ast.FunctionDef):
                    self.assertNotIn(row.name, taken, (name, row.lineno))

    def test_builtins(self):
        for name, text, tree in files():
            for row in ast.walk(tree):
                if isinstance(row, ast.Name) and hasattr(builtins, row.id):
                    self.assertIn(row.id, BUILTINS | ERRORS, (name, row.lineno))

    def test_imports_name_the_file_that_defines_and_are_used(self):
        defined = {}
        for name, text, tree in files():
            rows = {row.name for row in tree.body if isinstance(row, (ast.FunctionDef, ast.ClassDef))}
            rows |= {row.targets[0].id for row in tree.body if isinstance(row, ast.Assign)}
            defined["asifalone." + name[:-3]] = rows
        for name, text, tree in files():
            used = {row.id for row in ast.walk(tree) if isinstance(row, ast.Name)}
            for row in tree.body:
                if isinstance(row, ast.ImportFrom):
                    for alias in row.names:
                        self.assertIsNone(alias.asname, name)
                        self.assertIn(alias.name, defined[row.module], (name, row.module))
                        self.assertIn(alias.name, used, (name, row.module))

    def test_no_two_files_import_from_each_other(self):
        above = {}
        for name, text, tree in files():
            above[name[:-3]] = {row.module[10:] for row in tree.body if isinstance(row, ast.ImportFrom)}
        left = dict(above)
        while left:
            ready = [name for name in left if not left[name] & set(left)]
            self.assertTrue(ready, left)
            for name in ready:
                del left[name]

    def test_classes(self):
        methods, stored, told, read = set(), set(), set(), set()
        for name, text, tree in files():
            for row in ast.walk(tree):
                if isinstance(row, ast.ClassDef):
                    self.assertIn(row, tree.body, name)
                    self.assertEqual(row.decorator_list, [], name)
                    for part in row.body:
                        self.assertIsInstance(part, (ast.FunctionDef, ast.Expr), (name, part.lineno))
                        if isinstance(part, ast.FunctionDef):
                            marks = [mark.id for mark in part.decorator_list]
                            self.assertIn(marks, ([], ["property"]), (name, part.name))
                            (told if marks else methods).add(part.name)
                if isinstance(row, ast.Attribute):
                    (stored if isinstance(row.ctx, ast.Store) else read).add(row.attr)
        self.assertEqual(methods & (stored | told), set())
        self.assertEqual(told & stored, set())
        self.assertLessEqual(read, methods | stored | told | METHODS)
        self.assertEqual((stored | told) & METHODS, set())

    def test_special_methods(self):
        for name, text, tree in files():
            for row in ast.walk(tree):
                if isinstance(row, ast.FunctionDef) and row.name.startswith("__"):
                    self.assertIn(row.name, SPECIAL, name)
                    if row.name != "__init__":
                        self.assertIsInstance(row.body[-1], ast.Return, (name, row.lineno))
                        for part in ast.walk(row):
                            self.assertNotIsInstance(part, CHANGING, (name, row.lineno))

    def test_comparisons(self):
        for name, text, tree in files():
            for row in ast.walk(tree):
                if isinstance(row, ast.Compare):
                    for sign, right in zip(row.ops, row.comparators):
                        if isinstance(sign, (ast.Is, ast.IsNot)):
                            self.assertIsInstance(right, ast.Constant, (name, row.lineno))
                            self.assertIn(right.value, (None, True, False), (name, row.lineno))

    def test_loops_do_not_change_what_they_go_over(self):
        changing = {"append", "clear", "extend", "insert", "pop", "remove", "reverse", "setdefault", "update"}
        for name, text, tree in files():
            for row in ast.walk(tree):
                if not isinstance(row, ast.For):
                    continue
                over = {ast.dump(part) for part in ast.walk(row.iter) if isinstance(part, (ast.Name, ast.Attribute))}
                for part in [part for line in row.body for part in ast.walk(line)]:
                    if isinstance(part, ast.Call) and isinstance(part.func, ast.Attribute) and part.func.attr in changing:
                        self.assertNotIn(ast.dump(part.func.value), over, (name, part.lineno))

    def test_expressions(self):
        barred = (ast.Div, ast.Global, ast.AsyncFunctionDef, ast.Await, ast.GeneratorExp, ast.Try, ast.Lambda)
        for name, text, tree in files():
            for row in ast.walk(tree):
                self.assertNotIsInstance(row, barred, (name, getattr(row, "lineno", None)))
                if isinstance(row, ast.Constant):
                    self.assertNotIsInstance(row.value, (float, complex), name)
                if isinstance(row, ast.Call) and isinstance(row.func, ast.Name) and row.func.id in TAKE_LISTS:
                    self.assertEqual([given for given in row.args if isinstance(given, ast.GeneratorExp)], [], name)

    def test_module_values_are_plain_and_bound_once(self):
        plain = (ast.Constant, ast.Tuple, ast.Dict, ast.List, ast.BinOp, ast.UnaryOp, ast.operator, ast.unaryop, ast.Load)
        for name, text, tree in files():
            bound = []
            for row in tree.body:
                if isinstance(row, ast.Assign):
                    self.assertEqual([type(target) for target in row.targets], [ast.Name], (name, row.lineno))
                    bound.append(row.targets[0].id)
                    for part in ast.walk(row.value):
                        self.assertIsInstance(part, plain, (name, row.lineno))
                    for part in getattr(row.value, "elts", getattr(row.value, "values", [])):
                        self.assertNotIsInstance(part, (ast.List, ast.Dict), (name, row.lineno))
                elif isinstance(row, (ast.FunctionDef, ast.ClassDef)):
                    bound.append(row.name)
                elif isinstance(row, ast.ImportFrom):
                    bound.extend(alias.name for alias in row.names)
            self.assertEqual(len(bound), len(set(bound)), name)

    def test_statements(self):
        allowed = (
            ast.Assign, ast.AugAssign, ast.If, ast.While, ast.For, ast.Return, ast.Break, ast.Continue, ast.Raise, ast.Delete,
            ast.Expr, ast.FunctionDef, ast.ClassDef, ast.ImportFrom,
        )
        for name, text, tree in files():
            above = parents_of(tree)
            for row in ast.walk(tree):
                if isinstance(row, ast.stmt):
                    self.assertIsInstance(row, allowed, (name, row.lineno))
                if isinstance(row, ast.Delete):
                    self.assertTrue(all(isinstance(target, ast.Subscript) for target in row.targets), (name, row.lineno))
                if isinstance(row, ast.FunctionDef):
                    self.assertIsInstance(above[row], (ast.Module, ast.ClassDef), (name, row.name))
                    self.assertIsNone(row.args.vararg or row.args.kwarg or row.returns, (name, row.name))
                    for given in row.args.defaults + row.args.kw_defaults:
                        self.assertIsInstance(given, ast.Constant, (name, row.name))
                if isinstance(row, ast.Expr):
                    self.assertIsInstance(row.value, (ast.Call, ast.Constant), (name, row.lineno))
                self.assertNotIsInstance(row, (ast.Starred, ast.NamedExpr, ast.Set), name)

    def test_raised_on_the_spot(self):
        refusals = {row.name for name, text, tree in files() for row in tree.body if isinstance(row, ast.ClassDef)}
        for name, text, tree in files():
            for row in ast.walk(tree):
                if isinstance(row, ast.Raise):
                    self.assertIsNone(row.cause, (name, row.lineno))
                    self.assertIn(called(row.exc), refusals, (name, row.lineno))

    def test_names_that_are_not_used(self):
        for name, text, tree in files():
            for row in ast.walk(tree):
                for field in ("id", "attr", "arg", "name"):
                    self.assertNotIn(getattr(row, field, None), NOWHERE, name)

    def test_own_names_are_none_of_builtin_values(self):
        taken = {word for kind in (str, int, list, tuple, dict, set, bytes) for word in dir(kind)} - SPECIAL
        for name, text, tree in files():
            for row in ast.walk(tree):
                if isinstance(row, ast.ClassDef):
                    for part in row.body:
                        self.assertNotIn(getattr(part, "name", None), taken, (name, row.name))
                if isinstance(row, ast.Attribute) and isinstance(row.ctx, ast.Store):
                    self.assertNotIn(row.attr, taken, (name, row.lineno))

    def test_iterated_on_the_spot(self):
        for name, text, tree in files():
            above = parents_of(tree)
            for row in ast.walk(tree):
                fresh = called(row) in AT_ONCE
                if isinstance(row, ast.Call) and isinstance(row.func, ast.Attribute):
                    fresh = row.func.attr in ("items", "keys", "values")
                if fresh:
                    over = above[row]
                    if isinstance(over, ast.Call):
                        self.assertIn(called(over), GOES_OVER, (name, row.lineno))
                        self.assertTrue(over.args[0] is row or called(over) == "zip", (name, row.lineno))
                    else:
                        self.assertIsInstance(over, (ast.For, ast.comprehension), (name, row.lineno))
                        self.assertIs(over.iter, row, (name, row.lineno))

    def test_sets(self):
        for name, text, tree in files():
            above = parents_of(tree)
            for row in ast.walk(tree):
                self.assertNotEqual(called(row), "frozenset", name)
                if called(row) == "set" or isinstance(row, ast.SetComp):
                    self.assertIn(called(above[row]), ("sorted", "len"), (name, row.lineno))
                    self.assertEqual(above[row].keywords, [], (name, row.lineno))

    def test_calls(self):
        for name, text, tree in files():
            above = parents_of(tree)
            for row in ast.walk(tree):
                if isinstance(row, ast.Name) and row.id in BUILTINS:
                    over = above[row]
                    called_here = isinstance(over, ast.Call) and over.func is row
                    kind = called(over) == "isinstance" or called(above.get(over)) == "isinstance"
                    mark = isinstance(over, ast.FunctionDef) and row in over.decorator_list
                    self.assertTrue(called_here or kind or mark, (name, row.lineno))
                if isinstance(row, ast.Call):
                    words = {given.arg for given in row.keywords}
                    if called(row) in BUILTINS:
                        self.assertLessEqual(words, KEYWORDS.get(called(row), set()), (name, row.lineno))
                    elif isinstance(row.func, ast.Attribute) and row.func.attr in METHODS:
                        self.assertEqual(words, set(), (name, row.lineno))

    def test_attributes_are_stored_through_a_local_name(self):
        for name, text, tree in files():
            known = {row.name for row in tree.body if isinstance(row, (ast.FunctionDef, ast.ClassDef))}
            for row in ast.walk(tree):
                if isinstance(row, ast.Attribute) and isinstance(row.ctx, ast.Store):
                    self.assertIsInstance(row.value, ast.Name, (name, row.lineno))
                    self.assertNotIn(row.value.id, known, (name, row.lineno))

    def test_texts_and_powers(self):
        for name, text, tree in files():
            self.assertNotIn("\\", text, name)
            self.assertNotIn("\t", text, name)
            for row in ast.walk(tree):
                if isinstance(row, ast.BinOp) and isinstance(row.op, ast.Pow):
                    self.assertIsInstance(row.right, ast.Constant, (name, row.lineno))
                    self.assertIn(row.right.value, range(65), (name, row.lineno))
                if isinstance(row, ast.Constant) and isinstance(row.value, str):
                    self.assertNotIn("__", row.value, name)
                if isinstance(row, ast.FormattedValue):
                    self.assertIsNone(row.format_spec, (name, row.lineno))
                    parts = [part for part in ast.walk(row.value) if isinstance(part, ast.Constant)]
                    self.assertEqual([part for part in parts if isinstance(part.value, str)], [], (name, row.lineno))

    def test_the_pythons_give_no_warning(self):
        with warnings.catch_warnings():
            warnings.simplefilter("error")
            for name, text, tree in files():
                compile(text, name, "exec")


if __name__ == "__main__":
    unittest.main()
