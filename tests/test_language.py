"""The package keeps to the small part of Python that LANGUAGE.md tells (what a walk of the code can see)."""

import ast
import builtins
import pathlib
import re
import unittest

PACKAGE = pathlib.Path(__file__).resolve().parent.parent / "chiefway"

NODES = (
    "Module Import ImportFrom alias FunctionDef arguments arg Lambda ClassDef Assign AugAssign If While For Return "
    "Break Continue Pass Raise Try ExceptHandler Expr Name Load Store Constant List Tuple Dict Set BinOp UnaryOp "
    "BoolOp Compare IfExp Call keyword Attribute Subscript Slice ListComp comprehension JoinedStr FormattedValue "
    "Add Sub Mult FloorDiv Mod Pow LShift RShift BitOr BitXor BitAnd Invert Not USub And Or "
    "Eq NotEq Lt LtE Gt GtE Is IsNot In NotIn"
).split()
OWN_NAMES = (
    "len range enumerate zip min max sum abs sorted reversed int str bool list tuple dict set frozenset isinstance "
    "ord repr any all divmod Exception ValueError TypeError KeyError IndexError LookupError ZeroDivisionError "
    "ArithmeticError OverflowError RuntimeError NotImplementedError"
).split()
METHODS = (
    "append clear copy count endswith extend find get index insert isalnum isalpha isdigit islower isspace isupper "
    "items join keys ljust lower lstrip partition pop remove replace reverse rfind rjust rpartition rsplit rstrip "
    "setdefault split splitlines startswith strip update upper values zfill bit_length"
).split()
WORDS = (
    "type typing typing_extensions enum Enum IntEnum StrEnum Flag IntFlag Generic Protocol ABC ABCMeta namedtuple "
    "NamedTuple TypedDict TYPE_CHECKING abstractmethod"
).split()


def bound_names(tree):
    """Every name that the file binds, with the row where it does."""
    for node in ast.walk(tree):
        if isinstance(node, (ast.FunctionDef, ast.ClassDef)):
            yield node.name, node.lineno
        elif isinstance(node, ast.arg):
            yield node.arg, node.lineno
        elif isinstance(node, ast.Name) and isinstance(node.ctx, ast.Store):
            yield node.id, node.lineno
        elif isinstance(node, ast.ExceptHandler) and node.name:
            yield node.name, node.lineno


def called(node):
    """The plain name that a call calls, or an empty text."""
    if isinstance(node, ast.Call) and isinstance(node.func, ast.Name):
        return node.func.id
    return ""


def is_walk(node):
    """Whether what stands there is to be walked on the spot (L23)."""
    if called(node) in ("zip", "enumerate", "reversed", "range"):
        return True
    return (isinstance(node, ast.Call) and isinstance(node.func, ast.Attribute)
            and node.func.attr in ("items", "keys", "values"))


def walked_on_the_spot(tree):
    """What stands behind the in of a for or comprehension, or first in a call that walks it."""
    for node in ast.walk(tree):
        if isinstance(node, (ast.For, ast.comprehension)):
            yield node.iter
        elif called(node) in ("list", "tuple", "dict", "sorted", "sum", "any", "all", "enumerate", "min", "max"):
            yield node.args[0] if node.args else None
        elif called(node) == "zip":
            yield from node.args
        elif isinstance(node, ast.Call) and isinstance(node.func, ast.Attribute) and node.func.attr == "join":
            yield node.args[0]


def tops_bound(tree):
    """The names that a file binds at its top, without its imports."""
    for top in tree.body:
        if isinstance(top, (ast.FunctionDef, ast.ClassDef)):
            yield top.name
        elif isinstance(top, ast.Assign):
            yield top.targets[0].id


def is_plain(node, functions):
    """Whether a value at a file's top is plain (L3), or a function defined above."""
    if isinstance(node, ast.Constant):
        return True
    if isinstance(node, (ast.Tuple, ast.List)):
        return all(is_plain(one, functions) for one in node.elts)
    if isinstance(node, ast.Dict):
        return all(is_plain(one, functions) for one in node.keys + node.values)
    if isinstance(node, ast.UnaryOp):
        return is_plain(node.operand, functions)
    return isinstance(node, ast.Name) and node.id in functions


class Language(unittest.TestCase):
    def setUp(self):
        self.sources = {path: path.read_text("utf-8") for path in sorted(PACKAGE.glob("*.py"))}
        self.trees = {path: ast.parse(source) for path, source in self.sources.items()}

    def walk(self):
        for path, tree in self.trees.items():
            for node in ast.walk(tree):
                yield f"{path.name}:{getattr(node, 'lineno', 0)}", node

    def test_files(self):
        self.assertIn(PACKAGE / "__init__.py", self.sources)
        for path in PACKAGE.iterdir():
            if path.name != "__pycache__":
                self.assertRegex(path.name, r"^(__init__|__main__|[a-z][a-z0-9_]*)\.py$")
                self.assertNotIn(path.stem, dir(builtins))

    def test_signs_words_and_size(self):
        for path, source in self.sources.items():
            rows = source.split("\n")
            self.assertLessEqual(len(rows), 401, path.name)
            self.assertLessEqual(max(len(row) for row in rows), 120, path.name)
            self.assertIsNone(re.search(r"[^ -~\n]", source), path.name)
            for word in WORDS:
                self.assertIsNone(re.search(rf"\b{word}\b", source), (path.name, word))
            self.assertIsNone(re.search("dataclass|overload|contextmanager", source), path.name)

    def test_statements_and_expressions(self):
        for where, node in self.walk():
            self.assertIn(type(node).__name__, NODES, where)
            if isinstance(node, ast.Constant):
                self.assertNotIn(type(node.value), (float, bytes, complex, type(Ellipsis)), where)
            if isinstance(node, ast.Assign):
                self.assertEqual(len(node.targets), 1, where)
                self.assertNotIsInstance(node.targets[0], (ast.Tuple, ast.List), where)
            if isinstance(node, (ast.For, ast.While)):
                self.assertEqual(node.orelse, [], where)
            if isinstance(node, ast.ListComp):
                self.assertEqual(len(node.generators), 1, where)
                self.assertLessEqual(len(node.generators[0].ifs), 1, where)

    def test_only_written_powers(self):
        for where, node in self.walk():
            if isinstance(node, ast.BinOp) and isinstance(node.op, ast.Pow):
                self.assertIsInstance(node.right, ast.Constant, where)
                self.assertTrue(0 <= node.right.value <= 64, where)

    def test_functions_and_classes(self):
        for where, node in self.walk():
            if isinstance(node, ast.FunctionDef):
                self.assertLessEqual(node.end_lineno - node.lineno + 1, 40, where)
                self.assertEqual(node.decorator_list, [], where)
                spec = node.args
                self.assertFalse(spec.vararg or spec.kwarg or spec.kwonlyargs or spec.posonlyargs, where)
            if isinstance(node, ast.ClassDef):
                self.assertEqual(node.decorator_list, [], where)
                self.assertLessEqual(len(node.bases), 1, where)
                self.assertTrue(all(isinstance(row, (ast.FunctionDef, ast.Pass)) for row in node.body), where)

    def test_imports_come_from_the_file_that_defines_the_name(self):
        for path, tree in self.trees.items():
            for node in ast.walk(tree):
                if isinstance(node, ast.Import):
                    self.assertEqual((path.name, node.names[0].name), ("__main__.py", "sys"))
                if isinstance(node, ast.ImportFrom):
                    self.assertRegex(node.module, r"^chiefway\.[a-z][a-z0-9_]*$")
                    tops = self.trees[PACKAGE / f"{node.module[9:]}.py"].body
                    defined = [name for top in tops for name, row in bound_names(top)]
                    for alias in node.names:
                        self.assertIn(alias.name, defined, path.name)
                        self.assertIsNone(alias.asname, path.name)

    def test_names(self):
        for path, tree in self.trees.items():
            imported = [a.name for n in ast.walk(tree) if isinstance(n, ast.ImportFrom) for a in n.names]
            bound = [name for name, row in bound_names(tree)]
            for name, row in bound_names(tree):
                self.assertTrue(name == "__init__" or not name.startswith("_"), (path.name, row, name))
                self.assertNotIn(name, dir(builtins), (path.name, row))
                self.assertNotIn(name, imported, (path.name, row))
            for node in ast.walk(tree):
                if isinstance(node, ast.Name):
                    self.assertIn(node.id, bound + imported + OWN_NAMES, (path.name, node.lineno))

    def test_methods(self):
        own = [name for tree in self.trees.values() for name, row in bound_names(tree)]
        for where, node in self.walk():
            if isinstance(node, ast.Attribute) and isinstance(node.ctx, ast.Store):
                own.append(node.attr)
        for where, node in self.walk():
            if isinstance(node, ast.Attribute):
                self.assertIn(node.attr, METHODS + own, where)

    def test_the_top_of_a_file_binds_plain_values_once(self):
        for path, tree in self.trees.items():
            names = list(tops_bound(tree))
            self.assertEqual(len(names), len(set(names)), path.name)
            functions = []
            for top in tree.body:
                where = (path.name, top.lineno)
                if isinstance(top, ast.FunctionDef):
                    functions.append(top.name)
                elif isinstance(top, ast.Assign):
                    self.assertTrue(is_plain(top.value, functions), where)
                elif isinstance(top, ast.Expr):
                    self.assertIsInstance(top.value, ast.Constant, where)
                else:
                    self.assertIsInstance(top, (ast.ImportFrom, ast.ClassDef), where)

    def test_no_two_files_draw_from_one_another(self):
        draws = {}
        for path, tree in self.trees.items():
            modules = [node.module for node in ast.walk(tree) if isinstance(node, ast.ImportFrom)]
            draws[path.stem] = [module.split(".")[1] for module in modules]
        done = []
        while len(done) < len(draws):
            free = [stem for stem in draws if stem not in done and all(one in done for one in draws[stem])]
            self.assertNotEqual(free, [], "these draw from one another")
            done.extend(free)

    def test_what_is_imported_is_used(self):
        for path, tree in self.trees.items():
            used = [node.id for node in ast.walk(tree) if isinstance(node, ast.Name)]
            for node in ast.walk(tree):
                if isinstance(node, ast.ImportFrom):
                    for alias in node.names:
                        self.assertIn(alias.name, used, path.name)

    def test_no_local_is_called_like_a_def_of_its_file(self):
        for path, tree in self.trees.items():
            tops = list(tops_bound(tree))
            for top in tree.body:
                if isinstance(top, ast.FunctionDef):
                    for name, row in bound_names(top):
                        self.assertTrue(name == top.name or name not in tops, (path.name, row, name))

    def test_is_stands_beside_none_true_and_false_alone(self):
        for where, node in self.walk():
            if isinstance(node, ast.Compare) and any(isinstance(op, (ast.Is, ast.IsNot)) for op in node.ops):
                self.assertEqual(len(node.ops), 1, where)
                self.assertIsInstance(node.comparators[0], ast.Constant, where)

    def test_what_is_walked_is_walked_on_the_spot(self):
        for path, tree in self.trees.items():
            spots = list(walked_on_the_spot(tree))
            for node in ast.walk(tree):
                if is_walk(node):
                    self.assertTrue(any(node is spot for spot in spots), (path.name, node.lineno))

    def test_no_sets(self):
        for where, node in self.walk():
            self.assertNotIn(type(node).__name__, ("Set", "SetComp", "DictComp"), where)
            self.assertNotIn(called(node), ("set", "frozenset"), where)

    def test_errors_are_the_programs_own(self):
        own = [top.name for top in self.trees[PACKAGE / "errors.py"].body if isinstance(top, ast.ClassDef)]
        for where, node in self.walk():
            if isinstance(node, ast.Raise):
                self.assertIn(called(node.exc), own, where)
            if isinstance(node, ast.ExceptHandler):
                self.assertIn(node.type.id, own, where)

    def test_keywords_and_own_functions(self):
        allowed = {"sorted": ("key", "reverse"), "min": ("key", "default"), "max": ("key", "default"),
                   "sum": ("start",), "enumerate": ("start",), "zip": ("strict",)}
        for path, tree in self.trees.items():
            names = [node.func for node in ast.walk(tree) if isinstance(node, ast.Call)]
            for node in ast.walk(tree):
                if isinstance(node, ast.Call):
                    for keyword in node.keywords:
                        self.assertIn(keyword.arg, allowed.get(called(node), ()), (path.name, node.lineno))
                if isinstance(node, ast.Name) and node.id in ("len", "sorted", "sum", "min", "max", "any", "all"):
                    self.assertTrue(any(node is name for name in names), (path.name, node.lineno))

    def test_methods_are_called_where_they_stand(self):
        for path, tree in self.trees.items():
            names = [node.func for node in ast.walk(tree) if isinstance(node, ast.Call)]
            for node in ast.walk(tree):
                if isinstance(node, ast.Attribute) and node.attr in METHODS:
                    self.assertTrue(any(node is name for name in names), (path.name, node.lineno))

    def test_texts_and_f_strings(self):
        for where, node in self.walk():
            if isinstance(node, ast.Constant) and isinstance(node.value, str):
                self.assertNotIn("%", node.value, where)
            if isinstance(node, ast.FormattedValue):
                self.assertIsInstance(node.value, ast.Name, where)
                self.assertIsNone(node.format_spec, where)

    def test_what_a_loop_walks_is_not_changed_in_it(self):
        changes = ("append", "clear", "extend", "insert", "pop", "remove", "reverse", "setdefault", "update")
        for where, node in self.walk():
            if not isinstance(node, ast.For):
                continue
            walked = [one.id for one in ast.walk(node.iter) if isinstance(one, ast.Name)]
            for inside in [one for row in node.body for one in ast.walk(row)]:
                if isinstance(inside, ast.Attribute) and inside.attr in changes and isinstance(inside.value, ast.Name):
                    self.assertNotIn(inside.value.id, walked, where)
                if isinstance(inside, ast.Subscript) and isinstance(inside.ctx, ast.Store):
                    self.assertNotIn(getattr(inside.value, "id", ""), walked, where)

    def test_no_name_is_a_method_here_and_a_value_there(self):
        methods = []
        values = []
        for where, node in self.walk():
            if isinstance(node, ast.ClassDef):
                methods.extend([row.name for row in node.body if isinstance(row, ast.FunctionDef)])
            if isinstance(node, ast.Attribute) and isinstance(node.ctx, ast.Store):
                values.append(node.attr)
        own = dir(str) + dir(int) + dir(list) + dir(dict) + dir(tuple) + dir(set) + dir(bytes)
        for name in methods + values:
            self.assertFalse(name in methods and name in values, name)
            self.assertTrue(name == "__init__" or name not in own, name)


if __name__ == "__main__":
    unittest.main()
