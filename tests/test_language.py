"""The package's files keep to the part of Python that the program is written in (what a walk can see of it)."""

import ast
import builtins
import os
import re
import unittest

PACKAGE = "rankedfunctions"
FOLDER = os.path.join(os.path.dirname(os.path.dirname(os.path.abspath(__file__))), PACKAGE)

NODES = (
    "Module Import ImportFrom alias FunctionDef ClassDef arguments arg Return Assign AugAssign AnnAssign For While If "
    "Raise Try ExceptHandler Expr Pass Break Continue BoolOp BinOp UnaryOp Lambda IfExp Dict List Tuple Set ListComp "
    "comprehension Compare Call keyword Constant Attribute Subscript Name Slice JoinedStr FormattedValue Load Store And Or Add "
    "Sub Mult FloorDiv Mod Pow LShift RShift BitOr BitXor BitAnd Invert Not UAdd USub Eq NotEq Lt LtE Gt GtE Is IsNot "
    "In NotIn"
).split()
OWN_NAMES = (
    "len range enumerate zip min max sum abs sorted reversed int str bool list tuple dict set frozenset isinstance ord "
    "repr any all divmod Exception ValueError TypeError KeyError IndexError LookupError ZeroDivisionError "
    "ArithmeticError OverflowError RuntimeError NotImplementedError AttributeError StopIteration"
).split()
METHODS = (
    "append clear copy count endswith extend find get index insert isalnum isalpha isdigit islower isspace isupper "
    "items join keys ljust lower lstrip partition pop remove replace reverse rfind rjust rpartition rsplit rstrip "
    "setdefault split splitlines startswith strip update upper values zfill bit_length"
).split()
SPECIAL_METHODS = "__init__ __eq__ __repr__ __str__ __len__".split()
WORDS_NOWHERE = (
    "type typing typing_extensions enum Enum IntEnum StrEnum Flag IntFlag Generic Protocol ABC ABCMeta namedtuple "
    "NamedTuple TypedDict TYPE_CHECKING abstractmethod"
).split()
KEYWORDS = {
    "sorted": ("key", "reverse"), "min": ("key", "default"), "max": ("key", "default"), "sum": ("start",),
    "enumerate": ("start",), "zip": ("strict",),
}
WALKED_AT_ONCE = ("zip", "enumerate", "reversed", "range")
WALKERS = ("list", "tuple", "dict", "sorted", "sum", "any", "all", "enumerate", "zip", "min", "max")
WALKED_METHODS = ("items", "keys", "values")
NAMES_NOWHERE = "register mro elements open input version_info with_traceback add_note format format_map".split()


def package_files():
    return sorted(name for name in os.listdir(FOLDER) if name != "__pycache__")


def source_of(name):
    with open(os.path.join(FOLDER, name), encoding="utf-8", newline="") as file:
        return file.read()


def own_methods(trees):
    return [
        node.name for tree in trees for top in tree.body if isinstance(top, ast.ClassDef)
        for node in top.body if isinstance(node, ast.FunctionDef)
    ]


def defined_at_top(tree):
    names = [node.name for node in tree.body if isinstance(node, (ast.FunctionDef, ast.ClassDef))]
    for node in tree.body:
        if isinstance(node, ast.Assign):
            names += [target.id for target in node.targets]
    return names


def drawn_from(tree):
    """The package's files that this one imports from."""
    return [node.module[len(PACKAGE) + 1:] + ".py" for node in tree.body if isinstance(node, ast.ImportFrom)]


def bound_within(function):
    """The parameters and locals of a def or lambda, those of what stands within it among them."""
    for node in ast.walk(function):
        if isinstance(node, ast.arg):
            yield node.arg
        elif isinstance(node, ast.Name) and isinstance(node.ctx, ast.Store):
            yield node.id
        elif isinstance(node, ast.ExceptHandler) and node.name:
            yield node.name
        elif isinstance(node, ast.FunctionDef) and node is not function:
            yield node.name


def is_call_of(node, names):
    return isinstance(node, ast.Call) and isinstance(node.func, ast.Name) and node.func.id in names


def is_plain(node, functions):
    """A plain value of a file's top: with tuples within, and functions that stand above."""
    if isinstance(node, ast.UnaryOp) and isinstance(node.op, ast.USub):
        node = node.operand
    if isinstance(node, ast.Tuple):
        return all(is_plain(part, functions) for part in node.elts)
    return isinstance(node, ast.Constant) or isinstance(node, ast.Name) and node.id in functions


class LanguageTest(unittest.TestCase):
    def setUp(self):
        self.sources = {name: source_of(name) for name in package_files()}
        self.trees = {name: ast.parse(source) for name, source in self.sources.items()}

    def nodes(self, *kinds):
        for name, tree in self.trees.items():
            for node in ast.walk(tree):
                if isinstance(node, kinds):
                    yield f"{name}:{getattr(node, 'lineno', 0)}", node

    def test_files(self):
        self.assertIn("__init__.py", self.sources)
        for name in self.sources:
            self.assertRegex(name, r"\A([a-z][a-z0-9_]*|__init__)\.py\Z")

    def test_signs_and_size(self):
        for name, source in self.sources.items():
            self.assertRegex(source, r"\A[ -~\n]*\Z", name)
            self.assertLessEqual(source.count("\n"), 400, name)
            self.assertLessEqual(max(map(len, source.split("\n"))), 120, name)
        for place, node in self.nodes(ast.FunctionDef):
            self.assertLessEqual(node.end_lineno - node.lineno + 1, 40, place)

    def test_words(self):
        for name, source in self.sources.items():
            for word in re.findall(r"\w+", source):
                self.assertNotIn(word, WORDS_NOWHERE, name)
                self.assertNotRegex(word, "dataclass|overload|contextmanager", name)

    def test_nodes(self):
        for place, node in self.nodes(ast.AST):
            self.assertIn(node.__class__.__name__, NODES, place)
        for place, node in self.nodes(ast.Constant):
            self.assertNotIsInstance(node.value, (float, complex, bytes), place)
        for place, node in self.nodes(ast.Assign):
            self.assertEqual(len(node.targets), 1, place)
        for place, node in self.nodes(ast.For, ast.While):
            self.assertEqual(node.orelse, [], place)
        for place, node in self.nodes(ast.Try):
            self.assertEqual(node.finalbody, [], place)
        for place, node in self.nodes(ast.FunctionDef, ast.ClassDef):
            self.assertEqual(node.decorator_list, [], place)
        for place, node in self.nodes(ast.arguments):
            self.assertFalse(node.vararg or node.kwarg or node.kwonlyargs or node.posonlyargs, place)

    def test_imports(self):
        for place, node in self.nodes(ast.Import):
            self.fail(place)
        for place, node in self.nodes(ast.ImportFrom):
            self.assertEqual(node.level, 0, place)
            self.assertRegex(node.module, rf"\A{PACKAGE}\.", place)
            defining = self.trees[node.module[len(PACKAGE) + 1:] + ".py"]
            for alias in node.names:
                self.assertIsNone(alias.asname, place)
                self.assertIn(alias.name, defined_at_top(defining), place)

    def test_no_file_draws_from_itself(self):
        drawn = {name: drawn_from(tree) for name, tree in self.trees.items()}
        done = ["__init__.py"]
        self.assertEqual(self.trees["__init__.py"].body[1:], [])
        while len(done) < len(drawn):
            ready = [name for name in drawn if name not in done and all(source in done for source in drawn[name])]
            self.assertNotEqual(ready, [], sorted(set(drawn) - set(done)))
            done += ready

    def test_tops(self):
        for name, tree in self.trees.items():
            functions = []
            seen = []
            for node in tree.body:
                if isinstance(node, ast.FunctionDef):
                    functions.append(node.name)
                if isinstance(node, ast.Assign):
                    value = node.value
                    parts = value.values + value.keys if isinstance(value, ast.Dict) else [value]
                    self.assertTrue(all(is_plain(part, functions) for part in parts), f"{name}:{node.lineno}")
                else:
                    kinds = (ast.Expr, ast.ImportFrom, ast.FunctionDef, ast.ClassDef)
                    self.assertIsInstance(node, kinds, f"{name}:{node.lineno}")
                if isinstance(node, ast.ImportFrom):
                    seen += [alias.name for alias in node.names]
            seen += defined_at_top(tree)
            self.assertEqual(sorted(seen), sorted(set(seen)), name)

    def test_locals(self):
        for name, tree in self.trees.items():
            taken = [node.name for node in tree.body if isinstance(node, ast.ClassDef)]
            taken += [alias.name for node in tree.body if isinstance(node, ast.ImportFrom) for alias in node.names]
            for node in ast.walk(tree):
                if isinstance(node, (ast.FunctionDef, ast.Lambda)):
                    for local in bound_within(node):
                        self.assertNotIn(local, taken, f"{name}:{node.lineno}")
                        self.assertNotIn(local, vars(builtins), f"{name}:{node.lineno}")

    def test_imported_names_are_used(self):
        for name, tree in self.trees.items():
            used = [node.id for node in ast.walk(tree) if isinstance(node, ast.Name)]
            for node in tree.body:
                if isinstance(node, ast.ImportFrom):
                    for alias in node.names:
                        self.assertIn(alias.name, used, name)

    def test_keywords(self):
        for place, node in self.nodes(ast.Call):
            for keyword in node.keywords:
                self.assertIsInstance(node.func, ast.Name, place)
                self.assertIn(keyword.arg, KEYWORDS.get(node.func.id, ()), place)

    def test_walked_at_once(self):
        allowed = []
        for place, node in self.nodes(ast.For, ast.comprehension):
            allowed.append(node.iter)
        for place, node in self.nodes(ast.Call):
            if is_call_of(node, WALKERS):
                allowed += node.args if node.func.id == "zip" else node.args[:1]
        for place, node in self.nodes(ast.Call):
            method = node.func.attr if isinstance(node.func, ast.Attribute) else ""
            if is_call_of(node, WALKED_AT_ONCE) or method in WALKED_METHODS:
                self.assertTrue(any(node is one for one in allowed), place)

    def test_errors(self):
        for place, node in self.nodes(ast.ExceptHandler):
            kinds = node.type.elts if isinstance(node.type, ast.Tuple) else [node.type]
            for kind in kinds:
                self.assertIsInstance(kind, ast.Name, place)
                self.assertNotIn(kind.id, vars(builtins), place)
        for place, node in self.nodes(ast.Raise):
            self.assertIsInstance(node.exc, ast.Call, place)
        for place, node in self.nodes(ast.Compare):
            for operator, right in zip(node.ops, node.comparators):
                if isinstance(operator, (ast.Is, ast.IsNot)):
                    self.assertIsInstance(right, ast.Constant, place)

    def test_names(self):
        for place, node in self.nodes(ast.Name):
            self.assertFalse(node.id.startswith("_"), place)
            self.assertNotIn(node.id, NAMES_NOWHERE, place)
            if node.id in vars(builtins):
                self.assertIn(node.id, OWN_NAMES, place)
                self.assertIsInstance(node.ctx, ast.Load, place)
        for place, node in self.nodes(ast.arg):
            self.assertFalse(node.arg in vars(builtins) or node.arg.startswith("_"), place)
        for place, node in self.nodes(ast.FunctionDef, ast.ClassDef):
            self.assertFalse(node.name in vars(builtins), place)
            if node.name.startswith("_"):
                self.assertIn(node.name, SPECIAL_METHODS, place)

    def test_attributes(self):
        methods = METHODS + own_methods(self.trees.values())
        for place, node in self.nodes(ast.Attribute):
            self.assertNotIn(node.attr, NAMES_NOWHERE, place)
            if node.attr.startswith("_"):
                self.assertIn(node.attr, SPECIAL_METHODS, place)
        for place, node in self.nodes(ast.Call):
            if isinstance(node.func, ast.Attribute):
                self.assertIn(node.func.attr, methods, place)


if __name__ == "__main__":
    unittest.main()
