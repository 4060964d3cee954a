"""The rules of LANGUAGE.md that can be seen in the package's text (not all of them can)."""

import ast
import builtins
import pathlib
import re
import unittest

PACKAGE = pathlib.Path(__file__).resolve().parent.parent / "stickytiles"

# L8, less chr (L27).
OWN_NAMES = set("""
    len range enumerate zip min max sum abs sorted reversed int str bool list tuple dict set frozenset isinstance ord
    repr any all divmod Exception ValueError TypeError KeyError IndexError LookupError ZeroDivisionError
    ArithmeticError OverflowError RuntimeError NotImplementedError AttributeError StopIteration
""".split())

# L25.
METHODS = set("""
    append clear copy count endswith extend find get index insert isalnum isalpha isdigit islower isspace isupper items
    join keys ljust lower lstrip partition pop remove replace reverse rfind rjust rpartition rsplit rstrip setdefault
    split splitlines startswith strip update upper values zfill bit_length
""".split())

DOUBLE_METHODS = {"__init__", "__eq__", "__repr__", "__str__", "__len__"}

# L17.
WORDS = set("""
    type typing typing_extensions enum Enum IntEnum StrEnum Flag IntFlag Generic Protocol ABC ABCMeta namedtuple
    NamedTuple TypedDict TYPE_CHECKING abstractmethod
""".split())
WITHIN_WORDS = ("dataclass", "overload", "contextmanager")
UNUSED_NAMES = set("""
    register mro elements open input version_info with_traceback add_note format format_map attrgetter breakpoint
    builtins compile copyright credits delattr dir eval exec exit gc getattr globals hasattr help id importlib license
    locals methodcaller os quit setattr super sys vars
""".split())

# L6 and L7, and what these are made of.
NODES = tuple(getattr(ast, name) for name in """
    Module FunctionDef ClassDef arguments arg ImportFrom alias Assign AugAssign If While For Return Break Continue Pass
    Raise Try ExceptHandler Expr Call keyword Constant List Tuple Dict Set BinOp UnaryOp BoolOp Compare IfExp Attribute
    Subscript Slice ListComp comprehension JoinedStr FormattedValue Name Lambda Load Store
    Add Sub Mult FloorDiv Mod Pow BitAnd BitOr BitXor LShift RShift Invert USub UAdd Not And Or
    Eq NotEq Lt LtE Gt GtE Is IsNot In NotIn
""".split())

# L26: what Python's own values have, less what methods, or values, may be called all the same.
PYTHON_NAMES = set().union(*[dir(kind) for kind in (str, int, list, tuple, dict, set, frozenset, bytes, bool)])
VALUE_NAMES = set("count index title find get join lower upper split strip copy add".split())
# L23.
WALKED = ("zip", "enumerate", "reversed", "range", "items", "keys", "values")
WALKERS = ("list", "tuple", "dict", "sorted", "sum", "any", "all", "enumerate", "zip", "min", "max")

FILE_NAMES = set(dir(builtins)) | WORDS | {"test", "tests", "testing", "site", "conftest"}


def package_files():
    return sorted(path for path in PACKAGE.iterdir() if path.name != "__pycache__")


def trees():
    return {path.stem: ast.parse(path.read_text()) for path in package_files()}


def defined(tree):
    found = []
    for node in tree.body:
        if isinstance(node, (ast.FunctionDef, ast.ClassDef)):
            found.append(node.name)
        elif isinstance(node, ast.Assign):
            found += [target.id for target in node.targets]
    return found


def called(node):
    """The name, or the method, that a call calls."""
    if not isinstance(node, ast.Call):
        return None
    return node.func.attr if isinstance(node.func, ast.Attribute) else getattr(node.func, "id", None)


def own_methods():
    return {part.name for tree in trees().values() for node in tree.body if isinstance(node, ast.ClassDef)
            for part in node.body if isinstance(part, ast.FunctionDef)} - DOUBLE_METHODS


def own_values():
    return {node.attr for tree in trees().values() for node in ast.walk(tree)
            if isinstance(node, ast.Attribute) and isinstance(node.ctx, ast.Store)}


def bound_names(node):
    if isinstance(node, ast.arg):
        return [node.arg]
    if isinstance(node, ast.Name) and isinstance(node.ctx, ast.Store):
        return [node.id]
    if isinstance(node, (ast.FunctionDef, ast.ClassDef)):
        return [node.name]
    return []


class TextTest(unittest.TestCase):
    def test_files(self):
        for path in package_files():
            self.assertTrue(path.is_file() and path.suffix == ".py", path)
            self.assertRegex(path.stem, r"^(__init__|__main__|[a-z][a-z0-9_]*)$")
            self.assertNotIn(path.stem, FILE_NAMES)
            self.assertFalse(path.stem.startswith("test_"), path)

    def test_signs_and_sizes(self):
        for path in package_files():
            text = path.read_bytes().decode("utf-8")
            self.assertTrue(all(sign == "\n" or " " <= sign <= "~" for sign in text), path)
            self.assertLessEqual(len(text.split("\n")) - 1, 400, path)
            self.assertLessEqual(max(len(line) for line in text.split("\n")), 120, path)

    def test_words(self):
        for path in package_files():
            text = path.read_text()
            self.assertEqual(WORDS & set(re.findall(r"\w+", text)), set(), path)
            self.assertFalse([word for word in WITHIN_WORDS if word in text], path)
            self.assertFalse(re.search(r"\\[^nt\\'\"]", text), path)


class TreeTest(unittest.TestCase):
    def each_node(self):
        for name, tree in trees().items():
            for node in ast.walk(tree):
                yield f"{name}.py:{getattr(node, 'lineno', 0)}", node

    def test_statements_and_expressions(self):
        for where, node in self.each_node():
            self.assertIsInstance(node, NODES, where)
            if isinstance(node, ast.Assign):
                self.assertEqual(len(node.targets), 1, where)
            if isinstance(node, (ast.For, ast.While)):
                self.assertFalse(node.orelse, where)
            if isinstance(node, ast.Try):
                self.assertFalse(node.finalbody, where)
            if isinstance(node, ast.comprehension):
                self.assertLessEqual(len(node.ifs), 1, where)
            if isinstance(node, ast.ListComp):
                self.assertEqual(len(node.generators), 1, where)

    def test_values(self):
        for where, node in self.each_node():
            if isinstance(node, ast.Constant):
                self.assertIn(type(node.value), (int, str, bool, type(None)), where)
                self.assertFalse(isinstance(node.value, str) and "%" in node.value, where)
            if isinstance(node, ast.BinOp) and isinstance(node.op, ast.Pow):
                self.assertTrue(isinstance(node.right, ast.Constant) and 0 <= node.right.value <= 64, where)
            if isinstance(node, ast.Compare) and any(isinstance(op, (ast.Is, ast.IsNot)) for op in node.ops):
                self.assertTrue(all(getattr(part, "value", 0) in (None, True, False) for part in node.comparators), where)

    def test_functions_and_classes(self):
        for where, node in self.each_node():
            if isinstance(node, ast.FunctionDef):
                self.assertLessEqual(node.end_lineno - node.lineno + 1, 40, where)
            if isinstance(node, ast.arguments):
                self.assertFalse(node.vararg or node.kwarg or node.kwonlyargs or node.posonlyargs, where)
            if isinstance(node, (ast.FunctionDef, ast.ClassDef)):
                self.assertFalse(node.decorator_list, where)
            if isinstance(node, ast.ClassDef):
                self.assertLessEqual(len(node.bases), 1, where)
                self.assertTrue(all(isinstance(part, (ast.FunctionDef, ast.Pass)) for part in node.body), where)

    def test_names(self):
        for where, node in self.each_node():
            for name in bound_names(node):
                if name not in DOUBLE_METHODS:
                    self.assertRegex(name, r"^[A-Za-z][A-Za-z0-9_]*$", where)
                    self.assertFalse(hasattr(builtins, name), where)
            if isinstance(node, ast.Name):
                self.assertNotIn(node.id, UNUSED_NAMES, where)
                self.assertTrue(node.id in OWN_NAMES or not hasattr(builtins, node.id), where)

    def test_methods(self):
        own = own_methods() | DOUBLE_METHODS
        for where, node in self.each_node():
            if isinstance(node, ast.Call) and isinstance(node.func, ast.Attribute):
                self.assertIn(node.func.attr, METHODS | own, where)
            if isinstance(node, ast.Attribute):
                self.assertNotIn(node.attr, UNUSED_NAMES - {"id"}, where)

    def test_methods_and_values_of_objects(self):
        self.assertEqual(own_methods() & own_values(), set())
        self.assertEqual(own_methods() & PYTHON_NAMES - METHODS - {"add", "discard"}, set())
        self.assertEqual(own_values() & PYTHON_NAMES - VALUE_NAMES, set())
        for name, tree in trees().items():
            for node in tree.body:
                if isinstance(node, ast.ClassDef):
                    methods = [part.name for part in node.body if isinstance(part, ast.FunctionDef)]
                    self.assertEqual(len(methods), len(set(methods)), name)

    def test_locals_are_not_called_like_imports_or_classes(self):
        for name, tree in trees().items():
            above = {part.name for node in tree.body if isinstance(node, ast.ImportFrom) for part in node.names}
            above |= {node.name for node in tree.body if isinstance(node, ast.ClassDef)}
            for node in ast.walk(tree):
                if isinstance(node, (ast.arg, ast.Name)):
                    self.assertFalse(above & set(bound_names(node)), name)

    def test_what_is_walked_on_the_spot(self):
        for where, node in self.each_node():
            for child in ast.iter_child_nodes(node):
                if called(child) in WALKED:
                    walked = isinstance(node, (ast.For, ast.comprehension)) and node.iter is child
                    self.assertTrue(walked or called(node) in WALKERS, where)

    def test_sets_are_not_kept(self):
        for where, node in self.each_node():
            for child in ast.iter_child_nodes(node):
                if called(child) in ("set", "frozenset"):
                    self.assertTrue(isinstance(node, (ast.Compare, ast.BinOp)) or called(node) in ("sorted", "len"), where)

    def test_errors_taken(self):
        for where, node in self.each_node():
            if isinstance(node, ast.ExceptHandler):
                self.assertIsInstance(node.type, ast.Name, where)
                self.assertNotIn(node.type.id, ("Exception", "TypeError"), where)
            if isinstance(node, ast.Raise):
                self.assertIsInstance(node.exc, ast.Call, where)

    def test_top_of_each_file(self):
        for name, tree in trees().items():
            self.assertTrue(isinstance(tree.body[0], ast.Expr) and isinstance(tree.body[0].value, ast.Constant), name)
            for node in tree.body[1:]:
                self.assertIsInstance(node, (ast.ImportFrom, ast.FunctionDef, ast.ClassDef, ast.Assign), name)
            self.assertEqual(len(defined(tree)), len(set(defined(tree))), name)

    def test_imports(self):
        all_trees = trees()
        drawn = {}
        for name, tree in all_trees.items():
            drawn[name] = []
            for node in ast.walk(tree):
                if isinstance(node, ast.ImportFrom):
                    self.assertRegex(node.module, r"^stickytiles\.[a-z][a-z0-9_]*$", name)
                    source = node.module.split(".")[1]
                    self.assertTrue(all(part.name in defined(all_trees[source]) for part in node.names), name)
                    drawn[name].append(source)
        self.assertEqual(drawn["__init__"], [])
        for name in drawn:
            self.assertNotIn(name, reached(drawn, name), name)


def reached(drawn, name):
    """All files from which one draws, in whatever many steps."""
    found = []
    ahead = list(drawn[name])
    while ahead:
        other = ahead.pop()
        if other not in found:
            found.append(other)
            ahead += drawn[other]
    return found


if __name__ == "__main__":
    unittest.main()
