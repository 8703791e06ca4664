"""The form of the package's code: those rules of LANGUAGE.md that can be looked at line by line and node by node."""

import ast
import builtins
import pathlib
import re
import unittest

PACKAGE = pathlib.Path(__file__).resolve().parent.parent / "defaultfund"

NODES = set("""
Module FunctionDef ClassDef arguments arg Return Assign AugAssign For While If Raise Try ExceptHandler
ImportFrom alias Expr Pass Break Continue BoolOp BinOp UnaryOp Lambda IfExp Dict List Tuple ListComp comprehension
Compare Call Constant Attribute Subscript Slice Name Load Store keyword JoinedStr FormattedValue
And Or Not USub Add Sub Mult FloorDiv Mod Pow BitAnd BitOr BitXor LShift RShift Invert
Eq NotEq Lt LtE Gt GtE Is IsNot In NotIn
""".split())
BUILT_IN = set("""
len range enumerate zip min max sum abs sorted reversed int str bool list tuple dict set frozenset isinstance ord
repr any all divmod Exception ValueError TypeError KeyError IndexError LookupError ZeroDivisionError ArithmeticError
OverflowError RuntimeError NotImplementedError AttributeError StopIteration
""".split())
METHODS = set("""
append clear copy count endswith extend find get index insert isalnum isalpha isdigit islower isspace isupper items
join keys ljust lower lstrip partition pop remove replace reverse rfind rjust rpartition rsplit rstrip setdefault
split splitlines startswith strip update upper values zfill bit_length
""".split())
WORDS = re.compile(
    r"\b(type|typing|typing_extensions|enum|Enum|IntEnum|StrEnum|Flag|IntFlag|Generic|Protocol|ABC|ABCMeta|namedtuple"
    r"|NamedTuple|TypedDict|TYPE_CHECKING|abstractmethod)\b|dataclass|overload|contextmanager"
)


def python_files():
    return sorted(path for path in PACKAGE.rglob("*") if "__pycache__" not in path.parts)


def trees():
    return [(path.name, ast.parse(path.read_text())) for path in python_files()]


def nodes(kind):
    return [(name, node) for name, tree in trees() for node in ast.walk(tree) if isinstance(node, kind)]


class Language(unittest.TestCase):
    def test_files(self):
        for path in python_files():
            self.assertRegex(path.name, r"^([a-z][a-z0-9_]*|__init__)\.py$")
            text = path.read_bytes().decode("ascii")
            lines = text.split("\n")
            self.assertTrue(all(sign == "\n" or " " <= sign <= "~" for sign in text), path)
            self.assertLessEqual(len(lines), 400, path)
            self.assertLessEqual(max(len(line) for line in lines), 120, path)
            self.assertIsNone(WORDS.search(text), path)

    def test_functions(self):
        for name, node in nodes(ast.FunctionDef):
            self.assertLessEqual(node.end_lineno - node.lineno + 1, 40, (name, node.name))
            self.assertEqual(node.decorator_list, [], (name, node.name))
            given = node.args
            self.assertFalse(given.vararg or given.kwarg or given.kwonlyargs or given.posonlyargs, (name, node.name))

    def test_nodes(self):
        for name, node in nodes(ast.AST):
            self.assertIn(node.__class__.__name__, NODES, (name, getattr(node, "lineno", 0)))
            if isinstance(node, ast.Assign):
                self.assertEqual(len(node.targets), 1, (name, node.lineno))
            if isinstance(node, ast.ListComp):
                self.assertEqual(len(node.generators), 1, (name, node.lineno))
            if isinstance(node, ast.Constant):
                self.assertIn(node.value.__class__.__name__, ("int", "str", "bool", "NoneType"), (name, node.lineno))
            if isinstance(node, (ast.For, ast.While)):
                self.assertEqual(node.orelse, [], (name, node.lineno))

    def test_imports(self):
        files = {path.stem: ast.parse(path.read_text()) for path in python_files()}
        for name, node in nodes(ast.ImportFrom):
            package, _, module = node.module.partition(".")
            self.assertEqual((package, node.level), ("defaultfund", 0), name)
            defined = [stored.id for row in files[module].body if isinstance(row, ast.Assign) for stored in row.targets]
            defined += [row.name for row in files[module].body if isinstance(row, (ast.FunctionDef, ast.ClassDef))]
            for drawn in node.names:
                self.assertIn(drawn.name, defined, name)
                self.assertIsNone(drawn.asname, name)

    def test_names(self):
        for name, tree in trees():
            known = set(BUILT_IN)
            for node in ast.walk(tree):
                if isinstance(node, (ast.FunctionDef, ast.ClassDef)):
                    known.add(node.name)
                if isinstance(node, ast.arg):
                    known.add(node.arg)
                if isinstance(node, ast.alias):
                    known.add(node.name)
                if isinstance(node, ast.Name) and isinstance(node.ctx, ast.Store):
                    self.assertNotIn(node.id, dir(builtins), (name, node.lineno))
                    known.add(node.id)
                if isinstance(node, ast.ExceptHandler) and node.name:
                    known.add(node.name)
            for node in ast.walk(tree):
                if isinstance(node, ast.Name):
                    self.assertIn(node.id, known, (name, node.lineno))
                    self.assertFalse(node.id.startswith("_"), (name, node.lineno))

    def test_methods(self):
        own = {node.name for name, node in nodes(ast.FunctionDef)}
        for name, node in nodes(ast.Call):
            if isinstance(node.func, ast.Attribute):
                self.assertIn(node.func.attr, METHODS | own, (name, node.lineno))


if __name__ == "__main__":
    unittest.main()
