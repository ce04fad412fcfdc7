"""The form of the package: the plain part of Python that it is written in, so far as a short look shows it."""

import ast
import builtins
import re
import unittest
from pathlib import Path

PACKAGE = Path(__file__).resolve().parent.parent / "levelcord"
OWN_NAMES = set(
    "len range enumerate zip min max sum abs sorted reversed int str bool bytes list tuple dict set frozenset isinstance"
    " ord repr any all divmod Exception ValueError TypeError KeyError IndexError LookupError ZeroDivisionError"
    " ArithmeticError OverflowError RuntimeError NotImplementedError AttributeError StopIteration".split()
)
OWN_METHODS = set(
    "append clear copy count endswith extend find get index insert isalnum isalpha isdigit islower isspace isupper items"
    " join keys ljust lower lstrip partition pop remove replace reverse rfind rjust rpartition rsplit rstrip setdefault"
    " split splitlines startswith strip update upper values zfill bit_length removeprefix removesuffix sort".split()
)
NOWHERE = re.compile(
    r"\b(type|typing|typing_extensions|enum|Enum|IntEnum|StrEnum|Flag|IntFlag|Generic|Protocol|ABC|ABCMeta|namedtuple"
    r"|NamedTuple|TypedDict|TYPE_CHECKING|abstractmethod)\b|dataclass|overload|contextmanager"
)
OUT = (
    ast.With, ast.Match, ast.Global, ast.Nonlocal, ast.Yield, ast.YieldFrom, ast.Await, ast.AsyncFunctionDef, ast.Import,
    ast.AsyncFor, ast.AsyncWith, ast.GeneratorExp, ast.NamedExpr, ast.Div, ast.MatMult,
)
DEFS = (ast.FunctionDef, ast.ClassDef)


def files():
    return sorted(PACKAGE.glob("*.py"))


def tree_of(file):
    return ast.parse(file.read_text(encoding="ascii"))


def walked(kind):
    return [(file, node) for file in files() for node in ast.walk(tree_of(file)) if isinstance(node, kind)]


def imports_of(tree):
    return {name.asname or name.name for node in tree.body if isinstance(node, ast.ImportFrom) for name in node.names}


def inner_names(tree):
    """Names of parameters, locals and defs within defs."""
    for top in tree.body:
        for node in ast.walk(top):
            if isinstance(node, ast.arg):
                yield node.arg
            elif isinstance(node, ast.Name) and isinstance(node.ctx, ast.Store) and isinstance(top, DEFS):
                yield node.id


class TestForm(unittest.TestCase):
    def test_nothing_but_plain_files(self):
        for path in PACKAGE.iterdir():
            if path.name != "__pycache__":
                self.assertRegex(path.name, r"^(__init__|[a-z][a-z0-9]*)\.py$")

    def test_signs_and_sizes(self):
        for file in files():
            text = file.read_text(encoding="ascii")
            self.assertRegex(text, r"\A[\n -~]*\Z", file.name)
            self.assertIsNone(NOWHERE.search(text), file.name)
            self.assertLessEqual(len(text.splitlines()), 400, file.name)
            self.assertLessEqual(max(len(row) for row in text.splitlines()), 120, file.name)
        for file, node in walked(ast.FunctionDef):
            self.assertLessEqual(node.end_lineno - node.lineno + 1, 40, f"{file.name} {node.name}")

    def test_no_statement_or_value_that_is_out(self):
        for file, node in walked(OUT):
            self.fail(f"{file.name} {node}")
        for file, node in walked(ast.Constant):
            self.assertNotIsInstance(node.value, (float, complex), f"{file.name} {node.lineno}")
            self.assertFalse(isinstance(node.value, str) and "%" in node.value, f"{file.name} {node.lineno}")
        for file, node in walked(ast.FormattedValue):
            self.assertIsNone(node.format_spec, f"{file.name} {node.lineno}")
        for file, node in walked((ast.For, ast.While)):
            self.assertEqual(node.orelse, [], f"{file.name} {node.lineno}")
        for file, node in walked((ast.FunctionDef, ast.ClassDef)):
            self.assertEqual(node.decorator_list, [], f"{file.name} {node.lineno}")
        for file, node in walked(ast.arguments):
            self.assertTrue(node.vararg is None and node.kwarg is None and not node.posonlyargs, file.name)
        for file, node in walked(ast.Call):
            self.assertFalse(any(isinstance(one, ast.Starred) for one in node.args), f"{file.name} {node.lineno}")

    def test_imports_are_the_package_s_own(self):
        for file, node in walked(ast.ImportFrom):
            self.assertRegex(node.module, r"^levelcord\.[a-z]+$", file.name)
            source = tree_of(PACKAGE / (node.module.partition(".")[2] + ".py"))
            defined = {row.name for row in source.body if isinstance(row, (ast.FunctionDef, ast.ClassDef))}
            defined |= {row.targets[0].id for row in source.body if isinstance(row, ast.Assign)}
            self.assertLessEqual({name.name for name in node.names}, defined, file.name)

    def test_names(self):
        for file in files():
            tree = tree_of(file)
            tops = imports_of(tree) | {node.name for node in tree.body if isinstance(node, ast.ClassDef)}
            for name in inner_names(tree):
                self.assertRegex(name, r"^[A-Za-z]", file.name)
                self.assertNotIn(name, tops, file.name)
                self.assertFalse(hasattr(builtins, name), f"{file.name} {name}")
            for node in ast.walk(tree):
                if isinstance(node, ast.Name) and hasattr(builtins, node.id):
                    self.assertIn(node.id, OWN_NAMES, file.name)

    def test_imports_are_used(self):
        for file in files():
            tree = tree_of(file)
            used = {node.id for node in ast.walk(tree) if isinstance(node, ast.Name)}
            self.assertLessEqual(imports_of(tree), used, file.name)

    def test_methods(self):
        own = {node.name for file, node in walked(ast.FunctionDef)}
        for file, node in walked(ast.Call):
            if isinstance(node.func, ast.Attribute):
                self.assertIn(node.func.attr, OWN_METHODS | own, f"{file.name} {node.lineno}")
        for file, node in walked(ast.Compare):
            for sign, side in zip(node.ops, node.comparators):
                if isinstance(sign, (ast.Is, ast.IsNot)):
                    self.assertIsInstance(side, ast.Constant, f"{file.name} {node.lineno}")

    def test_no_name_is_a_method_and_a_value(self):
        methods = {row.name for file, node in walked(ast.ClassDef) for row in node.body if isinstance(row, ast.FunctionDef)}
        values = {node.attr for file, node in walked(ast.Attribute) if isinstance(node.ctx, ast.Store)}
        self.assertFalse(methods & values)
