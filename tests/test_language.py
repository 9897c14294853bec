"""The package's files keep to the part of Python that the program is written in (what a walk can see of it)."""

import ast
import builtins
import os
import re
import unittest

PACKAGE = "rankedfunctions"
FOLDER = os.path.join(os.path.dirname(os.path.dirname(os.path.abspath(__file__))), PACKAGE)

NODES = (
    "Module Import ImportFrom alias FunctionDef ClassDef arguments arg Return Assign AugAssign AnnAssign For While If "
    "Raise Try ExceptHandler Expr Pass Break Continue BoolOp BinOp UnaryOp Lambda IfExp Dict List Tuple Set ListComp "
    "comprehension Compare Call Constant Attribute Subscript Name Slice JoinedStr FormattedValue Load Store And Or Add "
    "Sub Mult FloorDiv Mod Pow LShift RShift BitOr BitXor BitAnd Invert Not UAdd USub Eq NotEq Lt LtE Gt GtE Is IsNot "
    "In NotIn"
).split()
OWN_NAMES = (
    "len range enumerate zip min max sum abs sorted reversed int str bool list tuple dict set frozenset isinstance ord "
    "repr any all divmod Exception ValueError TypeError KeyError IndexError LookupError ZeroDivisionError "
    "ArithmeticError OverflowError RuntimeError NotImplementedError AttributeError StopIteration"
).split()
METHODS = (
    "append clear copy count endswith extend find get index insert isalnum isalpha isdigit islower isspace isupper "
    "items join keys ljust lower lstrip partition pop remove replace reverse rfind rjust rpartition rsplit rstrip "
    "setdefault split splitlines startswith strip update upper values zfill bit_length"
).split()
SPECIAL_METHODS = "__init__ __eq__ __repr__ __str__ __len__".split()
WORDS_NOWHERE = (
    "type typing typing_extensions enum Enum IntEnum StrEnum Flag IntFlag Generic Protocol ABC ABCMeta namedtuple "
    "NamedTuple TypedDict TYPE_CHECKING abstractmethod"
).split()
NAMES_NOWHERE = "register mro elements open input version_info with_traceback add_note format format_map".split()


def package_files():
    return sorted(name for name in os.listdir(FOLDER) if name != "__pycache__")


def source_of(name):
    with open(os.path.join(FOLDER, name), encoding="utf-8", newline="") as file:
        return file.read()


def own_methods(trees):
    return [
        node.name for tree in trees for top in tree.body if isinstance(top, ast.ClassDef)
        for node in top.body if isinstance(node, ast.FunctionDef)
    ]


def defined_at_top(tree):
    names = [node.name for node in tree.body if isinstance(node, (ast.FunctionDef, ast.ClassDef))]
    for node in tree.body:
        if isinstance(node, ast.Assign):
            names += [target.id for target in node.targets]
    return names


class LanguageTest(unittest.TestCase):
    def setUp(self):
        self.sources = {name: source_of(name) for name in package_files()}
        self.trees = {name: ast.parse(source) for name, source in self.sources.items()}

    def nodes(self, *kinds):
        for name, tree in self.trees.items():
            for node in ast.walk(tree):
                if isinstance(node, kinds):
                    yield f"{name}:{getattr(node, 'lineno', 0)}", node

    def test_files(self):
        self.assertIn("__init__.py", self.sources)
        for name in self.sources:
            self.assertRegex(name, r"\A([a-z][a-z0-9_]*|__init__)\.py\Z")

    def test_signs_and_size(self):
        for name, source in self.sources.items():
            self.assertRegex(source, r"\A[ -~\n]*\Z", name)
            self.assertLessEqual(source.count("\n"), 400, name)
            self.assertLessEqual(max(map(len, source.split("\n"))), 120, name)
        for place, node in self.nodes(ast.FunctionDef):
            self.assertLessEqual(node.end_lineno - node.lineno + 1, 40, place)

    def test_words(self):
        for name, source in self.sources.items():
            for word in re.findall(r"\w+", source):
                self.assertNotIn(word, WORDS_NOWHERE, name)
                self.assertNotRegex(word, "dataclass|overload|contextmanager", name)

    def test_nodes(self):
        for place, node in self.nodes(ast.AST):
            self.assertIn(node.__class__.__name__, NODES, place)
        for place, node in self.nodes(ast.Constant):
            self.assertNotIsInstance(node.value, (float, complex, bytes), place)
        for place, node in self.nodes(ast.Assign):
            self.assertEqual(len(node.targets), 1, place)
        for place, node in self.nodes(ast.For, ast.While):
            self.assertEqual(node.orelse, [], place)
        for place, node in self.nodes(ast.Try):
            self.assertEqual(node.finalbody, [], place)
        for place, node in self.nodes(ast.FunctionDef, ast.ClassDef):
            self.assertEqual(node.decorator_list, [], place)
        for place, node in self.nodes(ast.arguments):
            self.assertFalse(node.vararg or node.kwarg or node.kwonlyargs or node.posonlyargs, place)

    def test_imports(self):
        for place, node in self.nodes(ast.Import):
            self.fail(place)
        for place, node in self.nodes(ast.ImportFrom):
            self.assertEqual(node.level, 0, place)
            self.assertRegex(node.module, rf"\A{PACKAGE}\.", place)
            defining = self.trees[node.module[len(PACKAGE) + 1:] + ".py"]
            for alias in node.names:
                self.assertIsNone(alias.asname, place)
                self.assertIn(alias.name, defined_at_top(defining), place)

    def test_names(self):
        for place, node in self.nodes(ast.Name):
            self.assertFalse(node.id.startswith("_"), place)
            self.assertNotIn(node.id, NAMES_NOWHERE, place)
            if node.id in vars(builtins):
                self.assertIn(node.id, OWN_NAMES, place)
                self.assertIsInstance(node.ctx, ast.Load, place)
        for place, node in self.nodes(ast.arg):
            self.assertFalse(node.arg in vars(builtins) or node.arg.startswith("_"), place)
        for place, node in self.nodes(ast.FunctionDef, ast.ClassDef):
            self.assertFalse(node.name in vars(builtins), place)
            if node.name.startswith("_"):
                self.assertIn(node.name, SPECIAL_METHODS, place)

    def test_attributes(self):
        methods = METHODS + own_methods(self.trees.values())
        for place, node in self.nodes(ast.Attribute):
            self.assertNotIn(node.attr, NAMES_NOWHERE, place)
            if node.attr.startswith("_"):
                self.assertIn(node.attr, SPECIAL_METHODS, place)
        for place, node in self.nodes(ast.Call):
            if isinstance(node.func, ast.Attribute):
                self.assertIn(node.func.attr, methods, place)


if __name__ == "__main__":
    unittest.main()
