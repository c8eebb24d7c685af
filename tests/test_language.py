"""The files of the package keep to the language: the rules that a look at the text alone can settle."""

import ast
import builtins
import os
import re
import unittest

PACKAGE = "lazyrails"
FOLDER = os.path.join(os.path.dirname(os.path.dirname(os.path.abspath(__file__))), PACKAGE)

NODES = set(
    "Module FunctionDef arguments arg ClassDef ImportFrom alias Expr Assign AugAssign AnnAssign Name Load Store Del "
    "Constant List Tuple Dict Set Attribute Subscript Slice Starred Call keyword Lambda IfExp BoolOp And Or UnaryOp "
    "Not USub UAdd Invert BinOp Add Sub Mult FloorDiv Mod Pow LShift RShift BitAnd BitOr BitXor Compare Eq NotEq Lt "
    "LtE Gt GtE Is IsNot In NotIn ListComp DictComp SetComp comprehension JoinedStr FormattedValue If While For "
    "Return Break Continue Pass Raise Assert Delete Try ExceptHandler".split()
)
BUILTINS = set(
    "len range enumerate zip min max sum abs sorted reversed int str bool bytes list tuple dict set frozenset "
    "isinstance ord repr any all divmod Exception ValueError TypeError KeyError IndexError LookupError "
    "ZeroDivisionError ArithmeticError OverflowError RuntimeError NotImplementedError AttributeError "
    "StopIteration".split()
)
SPECIAL = {"__init__", "__eq__", "__repr__", "__str__", "__len__"}
WORDS = set(
    "type typing typing_extensions enum Enum IntEnum StrEnum Flag IntFlag Generic Protocol ABC ABCMeta namedtuple "
    "NamedTuple TypedDict TYPE_CHECKING abstractmethod".split()
)
UNUSED = {"register", "mro", "elements", "open", "input", "version_info", "with_traceback", "add_note"}
PLAIN_NAME = re.compile("[A-Za-z][A-Za-z0-9_]*")


def package_files():
    return sorted(name for name in os.listdir(FOLDER) if name != "__pycache__")


def text_of(name):
    with open(os.path.join(FOLDER, name), encoding="utf-8", newline="") as file:
        return file.read()


def names_of(tree):
    """Every name that the file gives or uses."""
    found = set()
    for node in ast.walk(tree):
        for field in ("id", "attr", "arg", "name", "asname"):
            value = getattr(node, field, None)
            if isinstance(value, str) and not (isinstance(node, ast.alias) and "." in value):
                found.add(value)
    return found


def bound_names(tree):
    """Names of this file's own making, and the parameters and variables of its functions."""
    found = {node.name for node in ast.walk(tree) if isinstance(node, (ast.FunctionDef, ast.ClassDef))}
    for node in ast.walk(tree):
        if isinstance(node, ast.arg):
            found.add(node.arg)
        elif isinstance(node, ast.Name) and isinstance(node.ctx, ast.Store):
            found.add(node.id)
        elif isinstance(node, ast.alias):
            found.add(node.asname or node.name)
        elif isinstance(node, ast.ExceptHandler) and node.name:
            found.add(node.name)
    return found


class Language(unittest.TestCase):
    def test_files(self):
        names = package_files()
        self.assertIn("__init__.py", names)
        for name in names:
            self.assertRegex(name, r"\A([a-z][a-z0-9_]*|__init__)\.py\Z")

    def test_characters_and_sizes(self):
        for name in package_files():
            text = text_of(name)
            with self.subTest(name):
                self.assertRegex(text, r"\A[ -~\n]*\Z")
                lines = text.split("\n")
                self.assertLessEqual(len(lines) - 1, 400)
                self.assertLessEqual(max(len(line) for line in lines), 120)
                for node in ast.walk(ast.parse(text)):
                    if isinstance(node, ast.FunctionDef):
                        self.assertLessEqual(node.end_lineno - node.lineno + 1, 40, node.name)

    def test_words(self):
        for name in package_files():
            text = text_of(name)
            with self.subTest(name):
                self.assertEqual(sorted(WORDS & set(re.findall("[A-Za-z0-9_]+", text))), [])
                self.assertNotRegex(text, "dataclass|overload|contextmanager")

    def test_statements_and_expressions(self):
        for name in package_files():
            text = text_of(name)
            with self.subTest(name):
                used = {node.__class__.__name__ for node in ast.walk(ast.parse(text))}
                self.assertEqual(sorted(used - NODES), [])

    def test_constants(self):
        for name in package_files():
            text = text_of(name)
            with self.subTest(name):
                for node in ast.walk(ast.parse(text)):
                    if isinstance(node, ast.Constant):
                        self.assertIsInstance(node.value, (int, str, bytes, type(None)))
                        self.assertNotIn("%", str(node.value))

    def test_names(self):
        for name in package_files():
            text = text_of(name)
            with self.subTest(name):
                names = names_of(ast.parse(text))
                self.assertEqual(sorted(names & UNUSED), [])
                self.assertEqual([word for word in sorted(names - SPECIAL) if not PLAIN_NAME.fullmatch(word)], [])

    def test_builtins(self):
        for name in package_files():
            text = text_of(name)
            with self.subTest(name):
                tree = ast.parse(text)
                every = set(dir(builtins))
                loaded = {node.id for node in ast.walk(tree) if isinstance(node, ast.Name)}
                self.assertEqual(sorted((loaded & every) - BUILTINS), [])
                methods = {
                    node.name for found in ast.walk(tree) if isinstance(found, ast.ClassDef)
                    for node in found.body if isinstance(node, ast.FunctionDef)
                }
                self.assertEqual(sorted((bound_names(tree) - methods) & every), [])

    def test_imports(self):
        for name in package_files():
            text = text_of(name)
            with self.subTest(name):
                for node in ast.walk(ast.parse(text)):
                    if isinstance(node, ast.ImportFrom) and node.module != "__future__":
                        self.assertEqual(node.level, 0)
                        self.assertEqual(node.module.split(".")[0], PACKAGE)
                        source = node.module.split(".")[1] + ".py"
                        self.assertIn(source, package_files())
                        made = self.made_by(ast.parse(text_of(source)))
                        self.assertEqual([found.name for found in node.names if found.name not in made], [])

    def made_by(self, tree):
        found = {node.name for node in tree.body if isinstance(node, (ast.FunctionDef, ast.ClassDef))}
        for node in tree.body:
            if isinstance(node, ast.Assign):
                found.update(target.id for target in node.targets)
        return found

    def test_classes(self):
        methods, fields = set(), set()
        for name in package_files():
            text = text_of(name)
            with self.subTest(name):
                for node in ast.walk(ast.parse(text)):
                    if isinstance(node, ast.ClassDef):
                        self.assertLessEqual(len(node.bases), 1)
                        own = [item.name for item in node.body if isinstance(item, ast.FunctionDef)]
                        self.assertEqual(len(own), len(set(own)))
                        methods.update(own)
                        others = [item for item in node.body if not isinstance(item, ast.FunctionDef)]
                        self.assertTrue(all(isinstance(item, (ast.Expr, ast.Pass)) for item in others))
                    elif isinstance(node, ast.Attribute) and isinstance(node.ctx, ast.Store):
                        fields.add(node.attr)
                    elif isinstance(node, ast.FunctionDef):
                        self.assertEqual(node.decorator_list, [])
                        self.assertEqual((node.args.vararg, node.args.kwarg, node.args.posonlyargs), (None, None, []))
        self.assertEqual(sorted(methods & fields), [])
