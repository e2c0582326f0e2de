"""The package keeps to the small part of Python that LANGUAGE.md tells (what a walk of the code can see)."""

import ast
import builtins
import pathlib
import re
import unittest

PACKAGE = pathlib.Path(__file__).resolve().parent.parent / "chiefway"

NODES = (
    "Module Import ImportFrom alias FunctionDef arguments arg Lambda ClassDef Assign AugAssign If While For Return "
    "Break Continue Pass Raise Try ExceptHandler Expr Name Load Store Constant List Tuple Dict Set BinOp UnaryOp "
    "BoolOp Compare IfExp Call keyword Attribute Subscript Slice ListComp comprehension JoinedStr FormattedValue "
    "Add Sub Mult FloorDiv Mod Pow LShift RShift BitOr BitXor BitAnd Invert Not USub And Or "
    "Eq NotEq Lt LtE Gt GtE Is IsNot In NotIn"
).split()
OWN_NAMES = (
    "len range enumerate zip min max sum abs sorted reversed int str bool list tuple dict set frozenset isinstance "
    "ord repr any all divmod Exception ValueError TypeError KeyError IndexError LookupError ZeroDivisionError "
    "ArithmeticError OverflowError RuntimeError NotImplementedError"
).split()
METHODS = (
    "append clear copy count endswith extend find get index insert isalnum isalpha isdigit islower isspace isupper "
    "items join keys ljust lower lstrip partition pop remove replace reverse rfind rjust rpartition rsplit rstrip "
    "setdefault split splitlines startswith strip update upper values zfill bit_length"
).split()
WORDS = (
    "type typing typing_extensions enum Enum IntEnum StrEnum Flag IntFlag Generic Protocol ABC ABCMeta namedtuple "
    "NamedTuple TypedDict TYPE_CHECKING abstractmethod"
).split()


def bound_names(tree):
    """Every name that the file binds, with the row where it does."""
    for node in ast.walk(tree):
        if isinstance(node, (ast.FunctionDef, ast.ClassDef)):
            yield node.name, node.lineno
        elif isinstance(node, ast.arg):
            yield node.arg, node.lineno
        elif isinstance(node, ast.Name) and isinstance(node.ctx, ast.Store):
            yield node.id, node.lineno


class Language(unittest.TestCase):
    def setUp(self):
        self.sources = {path: path.read_text("utf-8") for path in sorted(PACKAGE.glob("*.py"))}
        self.trees = {path: ast.parse(source) for path, source in self.sources.items()}

    def walk(self):
        for path, tree in self.trees.items():
            for node in ast.walk(tree):
                yield f"{path.name}:{getattr(node, 'lineno', 0)}", node

    def test_files(self):
        self.assertIn(PACKAGE / "__init__.py", self.sources)
        for path in PACKAGE.iterdir():
            if path.name != "__pycache__":
                self.assertRegex(path.name, r"^(__init__|__main__|[a-z][a-z0-9_]*)\.py$")
                self.assertNotIn(path.stem, dir(builtins))

    def test_signs_words_and_size(self):
        for path, source in self.sources.items():
            rows = source.split("\n")
            self.assertLessEqual(len(rows), 401, path.name)
            self.assertLessEqual(max(len(row) for row in rows), 120, path.name)
            self.assertIsNone(re.search(r"[^ -~\n]", source), path.name)
            for word in WORDS:
                self.assertIsNone(re.search(rf"\b{word}\b", source), (path.name, word))
            self.assertIsNone(re.search("dataclass|overload|contextmanager", source), path.name)

    def test_statements_and_expressions(self):
        for where, node in self.walk():
            self.assertIn(type(node).__name__, NODES, where)
            if isinstance(node, ast.Constant):
                self.assertNotIn(type(node.value), (float, bytes, complex, type(Ellipsis)), where)
            if isinstance(node, ast.Assign):
                self.assertEqual(len(node.targets), 1, where)
                self.assertNotIsInstance(node.targets[0], (ast.Tuple, ast.List), where)
            if isinstance(node, (ast.For, ast.While)):
                self.assertEqual(node.orelse, [], where)
            if isinstance(node, ast.ListComp):
                self.assertEqual(len(node.generators), 1, where)
                self.assertLessEqual(len(node.generators[0].ifs), 1, where)

    def test_only_written_powers(self):
        for where, node in self.walk():
            if isinstance(node, ast.BinOp) and isinstance(node.op, ast.Pow):
                self.assertIsInstance(node.right, ast.Constant, where)
                self.assertTrue(0 <= node.right.value <= 64, where)

    def test_functions_and_classes(self):
        for where, node in self.walk():
            if isinstance(node, ast.FunctionDef):
                self.assertLessEqual(node.end_lineno - node.lineno + 1, 40, where)
                self.assertEqual(node.decorator_list, [], where)
                spec = node.args
                self.assertFalse(spec.vararg or spec.kwarg or spec.kwonlyargs or spec.posonlyargs, where)
            if isinstance(node, ast.ClassDef):
                self.assertEqual(node.decorator_list, [], where)
                self.assertLessEqual(len(node.bases), 1, where)
                self.assertTrue(all(isinstance(row, (ast.FunctionDef, ast.Pass)) for row in node.body), where)

    def test_imports_come_from_the_file_that_defines_the_name(self):
        for path, tree in self.trees.items():
            for node in ast.walk(tree):
                if isinstance(node, ast.Import):
                    self.assertEqual((path.name, node.names[0].name), ("__main__.py", "sys"))
                if isinstance(node, ast.ImportFrom):
                    self.assertRegex(node.module, r"^chiefway\.[a-z][a-z0-9_]*$")
                    tops = self.trees[PACKAGE / f"{node.module[9:]}.py"].body
                    defined = [name for top in tops for name, row in bound_names(top)]
                    for alias in node.names:
                        self.assertIn(alias.name, defined, path.name)
                        self.assertIsNone(alias.asname, path.name)

    def test_names(self):
        for path, tree in self.trees.items():
            imported = [a.name for n in ast.walk(tree) if isinstance(n, ast.ImportFrom) for a in n.names]
            bound = [name for name, row in bound_names(tree)]
            for name, row in bound_names(tree):
                self.assertFalse(name.startswith("_"), (path.name, row, name))
                self.assertNotIn(name, dir(builtins), (path.name, row))
                self.assertNotIn(name, imported, (path.name, row))
            for node in ast.walk(tree):
                if isinstance(node, ast.Name):
                    self.assertIn(node.id, bound + imported + OWN_NAMES, (path.name, node.lineno))

    def test_methods(self):
        own = [name for tree in self.trees.values() for name, row in bound_names(tree)]
        for where, node in self.walk():
            if isinstance(node, ast.Attribute):
                self.assertIn(node.attr, METHODS + own, where)


if __name__ == "__main__":
    unittest.main()
