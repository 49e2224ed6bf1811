"""The package keeps to the part of Python that ../shared/LANGUAGE.md tells: what can be seen by a walk of its files."""

import ast
import builtins
import pathlib
import re
import unittest

PACKAGE = pathlib.Path(__file__).resolve().parent.parent / "kinwords"

BARRED_WORDS = re.compile(
    r"\b(type|typing|typing_extensions|enum|Enum|IntEnum|StrEnum|Flag|IntFlag|Generic|Protocol|ABC|ABCMeta"
    r"|namedtuple|NamedTuple|TypedDict|TYPE_CHECKING|abstractmethod)\b|dataclass|overload|contextmanager")

OWN_NAMES = set(
    "len range enumerate zip min max sum abs sorted reversed int str bool bytes list tuple dict set isinstance"
    " ord repr any all divmod Exception ValueError TypeError KeyError IndexError LookupError ZeroDivisionError"
    " ArithmeticError OverflowError RuntimeError NotImplementedError AttributeError StopIteration".split())

METHODS = set(
    "append clear copy count endswith extend find get index insert isalnum isalpha isdigit islower isspace"
    " isupper items join keys ljust lower lstrip partition pop remove replace reverse rfind rjust rpartition"
    " rsplit rstrip setdefault split splitlines startswith strip update upper values zfill bit_length"
    " add discard sort title capitalize swapcase casefold center removeprefix removesuffix isascii".split())

BARRED_NODES = (
    ast.With, ast.Match, ast.Global, ast.Nonlocal, ast.Yield, ast.YieldFrom, ast.AsyncFunctionDef, ast.Await,
    ast.GeneratorExp, ast.NamedExpr, ast.Div, ast.Import, ast.MatMult)

UNDERSCORED = {"__init__", "__eq__", "__repr__", "__str__", "__len__", "__all__", "__version__"}


def trees():
    for path in sorted(PACKAGE.glob("*.py")):
        text = path.read_text(encoding="utf-8")
        yield path.name, text, ast.parse(text)


def names_of_top(tree):
    """The names that a file's top gives itself, each as often as it does."""
    names = [node.name for node in tree.body if isinstance(node, (ast.FunctionDef, ast.ClassDef))]
    for node in tree.body:
        if isinstance(node, ast.Assign):
            names.extend([target.id for target in node.targets])
    return names


class Files(unittest.TestCase):
    def test_nothing_else_lies_there(self):
        for path in PACKAGE.iterdir():
            if path.name != "__pycache__":
                self.assertRegex(path.name, r"^[a-z0-9_]+\.py$")
        self.assertTrue((PACKAGE / "__init__.py").exists())

    def test_signs_and_sizes(self):
        for name, text, tree in trees():
            self.assertRegex(text, r"\A[ -~\n]*\Z", name)
            rows = text.split("\n")
            self.assertLessEqual(len(rows), 400, name)
            self.assertLessEqual(max(len(row) for row in rows), 120, name)
            for node in ast.walk(tree):
                if isinstance(node, ast.FunctionDef):
                    self.assertLessEqual(node.end_lineno - node.lineno + 1, 40, (name, node.name))

    def test_barred_words(self):
        for name, text, tree in trees():
            self.assertIsNone(BARRED_WORDS.search(text), name)

    def test_no_percent_sign_and_no_float_in_values(self):
        for name, text, tree in trees():
            for node in ast.walk(tree):
                if isinstance(node, ast.Constant):
                    self.assertNotIsInstance(node.value, (float, complex), name)
                    if isinstance(node.value, str):
                        self.assertNotIn("%", node.value, name)


class Nodes(unittest.TestCase):
    def test_barred_forms(self):
        for name, text, tree in trees():
            for node in ast.walk(tree):
                self.assertNotIsInstance(node, BARRED_NODES, (name, getattr(node, "lineno", 0)))
                if isinstance(node, (ast.FunctionDef, ast.ClassDef)):
                    self.assertEqual(node.decorator_list, [], (name, node.name))
                if isinstance(node, (ast.For, ast.While)):
                    self.assertEqual(node.orelse, [], (name, node.lineno))
                if isinstance(node, ast.Compare):
                    self.check_is(name, node)

    def check_is(self, name, node):
        for sign, right in zip(node.ops, node.comparators):
            if isinstance(sign, (ast.Is, ast.IsNot)):
                self.assertIsInstance(right, ast.Constant, (name, node.lineno))

    def test_imports(self):
        for name, text, tree in trees():
            top = [node for node in tree.body if isinstance(node, ast.ImportFrom)]
            every = [node for node in ast.walk(tree) if isinstance(node, ast.ImportFrom)]
            self.assertEqual(len(top), len(every), name)
            for node in every:
                self.assertEqual(node.level, 0, name)
                self.assertRegex(node.module, r"^kinwords\.[a-z]+$", name)

    def test_names_are_drawn_from_the_file_that_defines_them(self):
        defined = {name[:-3]: names_of_top(tree) for name, text, tree in trees()}
        for name, text, tree in trees():
            for node in tree.body:
                if isinstance(node, ast.ImportFrom):
                    for alias in node.names:
                        self.assertIn(alias.name, defined[node.module.split(".")[1]], name)

    def test_no_two_files_draw_from_one_another(self):
        drawn = {name[:-3]: {node.module.split(".")[1] for node in tree.body if isinstance(node, ast.ImportFrom)}
                 for name, text, tree in trees()}
        while drawn:
            free = [name for name, needed in drawn.items() if not needed & set(drawn)]
            self.assertTrue(free, sorted(drawn))
            for name in free:
                del drawn[name]

    def test_the_top_of_a_file(self):
        for name, text, tree in trees():
            names = names_of_top(tree) + [alias.name for node in tree.body if isinstance(node, ast.ImportFrom)
                                          for alias in node.names]
            self.assertEqual(len(names), len(set(names)), name)
            for node in tree.body:
                if isinstance(node, ast.Assign):
                    for part in ast.walk(node.value):
                        if part is not node.value:
                            self.assertNotIsInstance(part, (ast.List, ast.Dict, ast.Set, ast.Call), (name, node.lineno))

    def test_names(self):
        for name, text, tree in trees():
            drawn = {alias.name for node in tree.body if isinstance(node, ast.ImportFrom) for alias in node.names}
            for node in ast.walk(tree):
                if isinstance(node, ast.Name):
                    self.check_name(name, node.id, drawn, isinstance(node.ctx, ast.Store))
                elif isinstance(node, ast.arg):
                    self.check_name(name, node.arg, drawn, True)
                elif isinstance(node, (ast.FunctionDef, ast.ClassDef)) and node.name.startswith("_"):
                    self.assertIn(node.name, UNDERSCORED, name)

    def check_name(self, name, word, drawn, given):
        self.assertFalse(word.startswith("_"), (name, word))
        if hasattr(builtins, word):
            self.assertIn(word, OWN_NAMES, name)
            self.assertFalse(given, (name, word))
        if given:
            self.assertNotIn(word, drawn, name)

    def test_methods(self):
        own = {part.name for name, text, tree in trees() for node in ast.walk(tree)
               if isinstance(node, ast.ClassDef) for part in node.body if isinstance(part, ast.FunctionDef)}
        for name, text, tree in trees():
            for node in ast.walk(tree):
                if isinstance(node, ast.Call) and isinstance(node.func, ast.Attribute):
                    self.assertIn(node.func.attr, METHODS | own, (name, node.lineno))

    def test_no_name_is_a_method_and_a_value(self):
        methods, values = set(), set()
        for name, text, tree in trees():
            for node in ast.walk(tree):
                if isinstance(node, ast.ClassDef):
                    methods |= {part.name for part in node.body if isinstance(part, ast.FunctionDef)}
                if isinstance(node, ast.Attribute) and isinstance(node.ctx, ast.Store):
                    values.add(node.attr)
        self.assertEqual(methods & values, set())
        self.assertEqual(values & METHODS, set())


if __name__ == "__main__":
    unittest.main()
