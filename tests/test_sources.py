"""The package's files reach no clock, chance, file or network, and keep to the part of Python that is told."""

import ast
import builtins
import pathlib
import re
import unittest

PACKAGE = pathlib.Path(__file__).resolve().parent.parent / "limitdesk"
FILES = sorted(path for path in PACKAGE.rglob("*") if "__pycache__" not in path.parts and path.is_file())
OWN_NAMES = """
    len range enumerate zip min max sum abs sorted reversed int str bool list tuple dict set frozenset isinstance ord
    repr any all divmod Exception ValueError TypeError KeyError IndexError LookupError ZeroDivisionError
    ArithmeticError OverflowError RuntimeError NotImplementedError AttributeError StopIteration
""".split()
METHODS = """
    append clear copy count endswith extend find get index insert isalnum isalpha isdigit islower isspace isupper items
    join keys ljust lower lstrip partition pop remove replace reverse rfind rjust rpartition rsplit rstrip setdefault
    split splitlines startswith strip update upper values zfill bit_length
""".split()
WORDS = """
    type typing typing_extensions enum Enum IntEnum StrEnum Flag IntFlag Generic Protocol ABC ABCMeta namedtuple
    NamedTuple TypedDict TYPE_CHECKING abstractmethod
""".split()
NODES = """
    Module FunctionDef ClassDef arguments arg Return Assign AugAssign For While If Raise Try ExceptHandler ImportFrom
    alias Expr Pass Break Continue BoolOp And Or BinOp Add Sub Mult FloorDiv Mod Pow BitAnd BitOr BitXor LShift RShift
    UnaryOp Not USub Invert Lambda IfExp Dict ListComp comprehension Compare Eq NotEq Lt LtE Gt GtE Is IsNot In NotIn
    Call keyword JoinedStr FormattedValue Constant Attribute Subscript Slice Name Load Store List Tuple
""".split()


def nodes():
    for path in FILES:
        for node in ast.walk(ast.parse(path.read_text("ascii"))):
            yield path.name, node


def is_set_by_self(node):
    return isinstance(node.ctx, ast.Store) and isinstance(node.value, ast.Name) and node.value.id == "self"


class Sources(unittest.TestCase):
    def test_there_are_files_of_python_alone(self):
        self.assertIn(PACKAGE / "__init__.py", FILES)
        for path in FILES:
            self.assertRegex(path.name, r"\A(__init__|[a-z][a-z0-9_]*)\.py\Z")

    def test_imports_are_of_the_package_alone(self):
        for name, node in nodes():
            self.assertNotIsInstance(node, ast.Import, name)
            if isinstance(node, ast.ImportFrom):
                self.assertEqual(node.level, 0, name)
                self.assertRegex(node.module, r"\Alimitdesk\.[a-z]", name)
                for drawn in node.names:
                    self.assertIsNone(drawn.asname, name)
                    self.assertNotEqual(drawn.name, "*", name)

    def test_names_of_pythons_own(self):
        for name, node in nodes():
            if isinstance(node, ast.Name):
                self.assertFalse(node.id.startswith("_"), (name, node.id))
                if hasattr(builtins, node.id):
                    self.assertIn(node.id, OWN_NAMES, name)
                    self.assertIsInstance(node.ctx, ast.Load, (name, node.id))
            if isinstance(node, (ast.arg, ast.FunctionDef)):
                word = node.arg if isinstance(node, ast.arg) else node.name
                self.assertFalse(word != "__init__" and hasattr(builtins, word), (name, word))

    def test_methods_and_values(self):
        values = {node.attr for name, node in nodes() if isinstance(node, ast.Attribute) and is_set_by_self(node)}
        for value in values:
            self.assertFalse(any(hasattr(kind, value) for kind in (int, str, list, tuple, dict, set, bytes)), value)
        for name, node in nodes():
            if isinstance(node, ast.Attribute):
                self.assertIn(node.attr, METHODS + sorted(values), name)

    def test_forms(self):
        for name, node in nodes():
            self.assertIn(node.__class__.__name__, NODES, name)
            if isinstance(node, ast.Constant):
                self.assertIn(node.value.__class__.__name__, ("int", "str", "bool", "NoneType"), name)
            if isinstance(node, ast.Compare) and any(isinstance(op, (ast.Is, ast.IsNot)) for op in node.ops):
                self.assertTrue(all(isinstance(c, ast.Constant) for c in node.comparators), name)
            if isinstance(node, (ast.FunctionDef, ast.ClassDef)):
                self.assertEqual(node.decorator_list, [], name)
                self.assertLessEqual(node.end_lineno - node.lineno + 1 if isinstance(node, ast.FunctionDef) else 0, 40)
            if isinstance(node, ast.Expr):
                self.assertIsInstance(node.value, (ast.Call, ast.Constant), name)

    def test_rows(self):
        for path in FILES:
            text = path.read_text("ascii")
            rows = text.split("\n")
            self.assertRegex(text, r"\A[ -~\n]*\Z", path.name)
            self.assertLessEqual(len(rows), 401, path.name)
            self.assertLessEqual(max(len(row) for row in rows), 120, path.name)
            for word in re.findall(r"[A-Za-z0-9_]+", text):
                self.assertNotIn(word, WORDS, path.name)
                self.assertIsNone(re.search("dataclass|overload|contextmanager", word), path.name)


if __name__ == "__main__":
    unittest.main()
