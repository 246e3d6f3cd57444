"""The rules of ../shared/LANGUAGE.md that a look at the package's files can tell: sizes, names, imports, words."""

import ast
import builtins
import re
import unittest
from pathlib import Path

PACKAGE = Path(__file__).resolve().parent.parent / "fewmirrors"
FILES = sorted(PACKAGE.glob("*.py"))
TREES = {path.stem: ast.parse(path.read_text()) for path in FILES}
BUILTINS = set(
    "len range enumerate zip min max sum abs sorted reversed int str bool bytes list tuple dict set frozenset "
    "isinstance ord repr any all divmod iter next super property staticmethod classmethod "
    "Exception ValueError TypeError KeyError IndexError LookupError ZeroDivisionError ArithmeticError OverflowError "
    "RuntimeError NotImplementedError AttributeError StopIteration NotImplemented".split()
)
BARRED_WORDS = (
    "type typing typing_extensions enum Enum IntEnum StrEnum Flag IntFlag Generic Protocol ABC ABCMeta namedtuple "
    "NamedTuple TypedDict TYPE_CHECKING abstractmethod"
).split()
DOUBLE = ("__init__", "__eq__", "__repr__", "__str__", "__len__")
BUILTIN_METHODS = set(
    "append clear copy count endswith extend find get index insert isalnum isalpha isdigit islower isspace isupper "
    "items join keys ljust lower lstrip partition pop remove replace reverse rfind rjust rpartition rsplit rstrip "
    "setdefault split splitlines startswith strip update upper values zfill bit_length capitalize swapcase casefold "
    "expandtabs removeprefix removesuffix rindex isascii isdecimal isnumeric istitle isidentifier isprintable".split()
)


def nodes(kind):
    return [(name, node) for name, tree in TREES.items() for node in ast.walk(tree) if isinstance(node, kind)]


def bound_names(tree):
    """All names that parameters, assignments, loops, functions and classes give a meaning."""
    told = []
    for node in ast.walk(tree):
        if isinstance(node, ast.arg):
            told.append(node.arg)
        elif isinstance(node, ast.Name) and not isinstance(node.ctx, ast.Load):
            told.append(node.id)
        elif isinstance(node, (ast.FunctionDef, ast.ClassDef)):
            told.append(node.name)
    return told


def imported_names(tree):
    return [alias.name for node in tree.body if isinstance(node, ast.ImportFrom) for alias in node.names]


def defined_names(tree):
    told = [node.name for node in tree.body if isinstance(node, (ast.FunctionDef, ast.ClassDef))]
    return told + [node.targets[0].id for node in tree.body if isinstance(node, ast.Assign)]


class Files(unittest.TestCase):
    def test_the_folder_holds_plain_files_only(self):
        there = [path.name for path in PACKAGE.iterdir() if path.name != "__pycache__"]
        self.assertEqual(sorted(there), [path.name for path in FILES])
        for name in there:
            self.assertRegex(name, r"\A(__init__|[a-z][a-z0-9_]*)\.py\Z")

    def test_sizes_and_characters(self):
        for path in FILES:
            text = path.read_text()
            self.assertRegex(text, r"\A[\n -~]*\Z", path)
            lines = text.split("\n")
            self.assertLessEqual(len(lines), 400, path)
            self.assertLessEqual(max(len(line) for line in lines), 120, path)
        for name, node in nodes(ast.FunctionDef):
            self.assertLessEqual(node.end_lineno - node.lineno + 1, 40, (name, node.name))

    def test_barred_words(self):
        for path in FILES:
            words = set(re.findall(r"[A-Za-z_0-9]+", path.read_text()))
            self.assertEqual(words & set(BARRED_WORDS), set(), path)
            self.assertIsNone(re.search("dataclass|overload|contextmanager", path.read_text()), path)

    def test_imports(self):
        for name, node in nodes((ast.Import, ast.ImportFrom)):
            self.assertIsInstance(node, ast.ImportFrom, name)
            self.assertIn(node, TREES[name].body)
            package, file = node.module.split(".")
            self.assertEqual((package, node.level), ("fewmirrors", 0))
            for alias in node.names:
                self.assertIsNone(alias.asname)
                self.assertIn(alias.name, defined_names(TREES[file]))

    def test_no_two_files_import_each_other(self):
        needs = {name: set() for name in TREES}
        for name, node in nodes(ast.ImportFrom):
            needs[name].add(node.module.split(".")[1])
        while needs:
            free = [name for name in needs if not needs[name] & set(needs)]
            self.assertTrue(free, needs)
            for name in free:
                del needs[name]


class Names(unittest.TestCase):
    def test_plain_names(self):
        for tree in TREES.values():
            for name in bound_names(tree):
                if name not in DOUBLE:
                    self.assertRegex(name, r"\A[A-Za-z][A-Za-z0-9_]*\Z")
                    self.assertFalse(hasattr(builtins, name), name)

    def test_one_binding_for_each_name(self):
        for tree in TREES.values():
            top = defined_names(tree) + imported_names(tree)
            self.assertEqual(len(top), len(set(top)))
            self.assertEqual(set(bound_names(tree)) & set(imported_names(tree)), set())

    def test_builtins(self):
        for name, node in nodes(ast.Name):
            if hasattr(builtins, node.id):
                self.assertIn(node.id, BUILTINS, name)


def own_methods():
    return {node.name for name, kind in nodes(ast.ClassDef) for node in kind.body if isinstance(node, ast.FunctionDef)}


def given_attributes():
    return {node.attr for name, node in nodes(ast.Attribute) if isinstance(node.ctx, ast.Store)}


class Classes(unittest.TestCase):
    def test_only_these_double_underscore_methods(self):
        self.assertEqual({name for name in own_methods() if name.startswith("_")} - set(DOUBLE), set())

    def test_no_name_is_a_method_here_and_an_attribute_there(self):
        self.assertEqual(own_methods() & given_attributes(), set())

    def test_attributes_that_are_read_are_given(self):
        called = {id(node.func) for name, node in nodes(ast.Call)}
        for name, node in nodes(ast.Attribute):
            if id(node) in called:
                self.assertIn(node.attr, own_methods() | BUILTIN_METHODS, name)
            else:
                self.assertIn(node.attr, given_attributes(), name)

    def test_forms_and_keepers_never_change(self):
        for name, node in nodes(ast.FunctionDef):
            stores = [x for x in ast.walk(node) if isinstance(x, ast.Attribute) and not isinstance(x.ctx, ast.Load)]
            if name in ("forms", "keepers"):
                self.assertTrue(not stores or node.name == "__init__", (name, node.name))

    def test_double_underscore_methods_give_no_values(self):
        for name, node in nodes(ast.FunctionDef):
            if node.name in DOUBLE[1:]:
                given = [x for x in ast.walk(node) if isinstance(x, (ast.Assign, ast.AugAssign, ast.Delete))]
                self.assertEqual(given, [], (name, node.name))

    def test_what_length_and_texts_return(self):
        for name, node in nodes(ast.FunctionDef):
            told = [x.value for x in ast.walk(node) if isinstance(x, ast.Return)]
            if node.name == "__len__":
                self.assertTrue(all(isinstance(x, ast.Call) and x.func.id == "len" for x in told), name)
            if node.name in ("__str__", "__repr__"):
                self.assertTrue(all(isinstance(x, ast.JoinedStr) for x in told), name)


class Expressions(unittest.TestCase):
    def test_keywords_of_builtins(self):
        for name, node in nodes(ast.Call):
            if isinstance(node.func, ast.Name) and hasattr(builtins, node.func.id):
                self.assertLessEqual({x.arg for x in node.keywords}, {"key", "reverse", "start"}, name)

    def test_raised_on_the_spot(self):
        errors = defined_names(TREES["errors"])
        for name, node in nodes(ast.Raise):
            self.assertIsInstance(node.exc, ast.Call, name)
            self.assertIn(node.exc.func.id, errors, name)

    def test_barred_statements(self):
        barred = (ast.Global, ast.AsyncFunctionDef, ast.AsyncFor, ast.AsyncWith, ast.Await)
        self.assertEqual(nodes(barred), [])

    def test_signs(self):
        for name, node in nodes((ast.BinOp, ast.AugAssign)):
            self.assertNotIsInstance(node.op, (ast.Div, ast.MatMult), name)
            if isinstance(node.op, ast.Pow):
                self.assertIsInstance(node.right if isinstance(node, ast.BinOp) else node.value, ast.Constant)

    def test_literals(self):
        for name, node in nodes(ast.Constant):
            self.assertNotIsInstance(node.value, (float, complex))
            if isinstance(node.value, str):
                self.assertNotIn(chr(37), node.value)

    def test_is_only_beside_none_and_truths(self):
        for name, node in nodes(ast.Compare):
            for sign, right in zip(node.ops, node.comparators):
                if isinstance(sign, (ast.Is, ast.IsNot)):
                    self.assertIsInstance(right, ast.Constant)
                    self.assertIn(right.value, (None, True, False))

    def test_no_generator_expressions(self):
        self.assertEqual(nodes(ast.GeneratorExp), [])


if __name__ == "__main__":
    unittest.main()
