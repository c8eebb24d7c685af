"""The files of the package keep to the language: the rules that a look at the text alone can settle."""

import ast
import builtins
import os
import re
import unittest

PACKAGE = "lazyrails"
FOLDER = os.path.join(os.path.dirname(os.path.dirname(os.path.abspath(__file__))), PACKAGE)

NODES = set(
    "Module FunctionDef arguments arg ClassDef ImportFrom alias Expr Assign AugAssign AnnAssign Name Load Store Del "
    "Constant List Tuple Dict Set Attribute Subscript Slice Starred Call keyword Lambda IfExp BoolOp And Or UnaryOp "
    "Not USub UAdd Invert BinOp Add Sub Mult FloorDiv Mod Pow LShift RShift BitAnd BitOr BitXor Compare Eq NotEq Lt "
    "LtE Gt GtE Is IsNot In NotIn ListComp DictComp SetComp comprehension JoinedStr FormattedValue If While For "
    "Return Break Continue Pass Raise Assert Delete Try ExceptHandler".split()
)
BUILTINS = set(
    "len range enumerate zip min max sum abs sorted reversed int str bool bytes list tuple dict set frozenset "
    "isinstance ord repr any all divmod Exception ValueError TypeError KeyError IndexError LookupError "
    "ZeroDivisionError ArithmeticError OverflowError RuntimeError NotImplementedError AttributeError "
    "StopIteration".split()
)
SPECIAL = {"__init__", "__eq__", "__repr__", "__str__", "__len__"}
WORDS = set(
    "type typing typing_extensions enum Enum IntEnum StrEnum Flag IntFlag Generic Protocol ABC ABCMeta namedtuple "
    "NamedTuple TypedDict TYPE_CHECKING abstractmethod".split()
)
METHODS = set(
    "append clear copy count endswith extend find get index insert isalnum isalpha isdigit islower isspace isupper items "
    "join keys ljust lower lstrip partition pop remove replace reverse rfind rjust rpartition rsplit rstrip setdefault "
    "split splitlines startswith strip update upper values zfill bit_length add discard".split()
)
BUILTIN_KINDS = (str, int, list, dict, set, bytes)
UNUSED = {"register", "mro", "elements", "open", "input", "version_info", "with_traceback", "add_note"}
PLAIN_NAME = re.compile("[A-Za-z][A-Za-z0-9_]*")


def package_files():
    return sorted(name for name in os.listdir(FOLDER) if name != "__pycache__")


def text_of(name):
    with open(os.path.join(FOLDER, name), encoding="utf-8", newline="") as file:
        return file.read()


def names_of(tree):
    """Every name that the file gives or uses."""
    found = set()
    for node in ast.walk(tree):
        for field in ("id", "attr", "arg", "name", "asname"):
            value = getattr(node, field, None)
            if isinstance(value, str) and not (isinstance(node, ast.alias) and "." in value):
                found.add(value)
    return found


def bound_names(tree):
    """Names of this file's own making, and the parameters and variables of its functions."""
    found = {node.name for node in ast.walk(tree) if isinstance(node, (ast.FunctionDef, ast.ClassDef))}
    for node in ast.walk(tree):
        if isinstance(node, ast.arg):
            found.add(node.arg)
        elif isinstance(node, ast.Name) and isinstance(node.ctx, ast.Store):
            found.add(node.id)
        elif isinstance(node, ast.alias):
            found.add(node.asname or node.name)
        elif isinstance(node, ast.ExceptHandler) and node.name:
            found.add(node.name)
    return found


class Language(unittest.TestCase):
    def test_files(self):
        names = package_files()
        self.assertIn("__init__.py", names)
        for name in names:
            self.assertRegex(name, r"\A([a-z][a-z0-9_]*|__init__)\.py\Z")

    def test_characters_and_sizes(self):
        for name in package_files():
            text = text_of(name)
            with self.subTest(name):
                self.assertRegex(text, r"\A[ -~\n]*\Z")
                lines = text.split("\n")
                self.assertLessEqual(len(lines) - 1, 400)
                self.assertLessEqual(max(len(line) for line in lines), 120)
                for node in ast.walk(ast.parse(text)):
                    if isinstance(node, ast.FunctionDef):
                        self.assertLessEqual(node.end_lineno - node.lineno + 1, 40, node.name)

    def test_words(self):
        for name in package_files():
            text = text_of(name)
            with self.subTest(name):
                self.assertEqual(sorted(WORDS & set(re.findall("[A-Za-z0-9_]+", text))), [])
                self.assertNotRegex(text, "dataclass|overload|contextmanager")

    def test_statements_and_expressions(self):
        for name in package_files():
            text = text_of(name)
            with self.subTest(name):
                used = {node.__class__.__name__ for node in ast.walk(ast.parse(text))}
                self.assertEqual(sorted(used - NODES), [])

    def test_constants(self):
        for name in package_files():
            text = text_of(name)
            with self.subTest(name):
                for node in ast.walk(ast.parse(text)):
                    if isinstance(node, ast.Constant):
                        self.assertIsInstance(node.value, (int, str, bytes, type(None)))
                        self.assertNotIn("%", str(node.value))

    def test_names(self):
        for name in package_files():
            text = text_of(name)
            with self.subTest(name):
                names = names_of(ast.parse(text))
                self.assertEqual(sorted(names & UNUSED), [])
                self.assertEqual([word for word in sorted(names - SPECIAL) if not PLAIN_NAME.fullmatch(word)], [])

    def test_builtins(self):
        for name in package_files():
            text = text_of(name)
            with self.subTest(name):
                tree = ast.parse(text)
                every = set(dir(builtins))
                loaded = {node.id for node in ast.walk(tree) if isinstance(node, ast.Name)}
                self.assertEqual(sorted((loaded & every) - BUILTINS), [])
                methods = {
                    node.name for found in ast.walk(tree) if isinstance(found, ast.ClassDef)
                    for node in found.body if isinstance(node, ast.FunctionDef)
                }
                self.assertEqual(sorted((bound_names(tree) - methods) & every), [])

    def test_imports(self):
        for name in package_files():
            text = text_of(name)
            with self.subTest(name):
                for node in ast.walk(ast.parse(text)):
                    if isinstance(node, ast.ImportFrom) and node.module != "__future__":
                        self.assertEqual(node.level, 0)
                        self.assertEqual(node.module.split(".")[0], PACKAGE)
                        source = node.module.split(".")[1] + ".py"
                        self.assertIn(source, package_files())
                        made = self.made_by(ast.parse(text_of(source)))
                        self.assertEqual([found.name for found in node.names if found.name not in made], [])

    def made_by(self, tree):
        found = {node.name for node in tree.body if isinstance(node, (ast.FunctionDef, ast.ClassDef))}
        for node in tree.body:
            if isinstance(node, ast.Assign):
                found.update(target.id for target in node.targets)
        return found

    def test_classes(self):
        methods, fields = set(), set()
        for name in package_files():
            text = text_of(name)
            with self.subTest(name):
                for node in ast.walk(ast.parse(text)):
                    if isinstance(node, ast.ClassDef):
                        self.assertLessEqual(len(node.bases), 1)
                        own = [item.name for item in node.body if isinstance(item, ast.FunctionDef)]
                        self.assertEqual(len(own), len(set(own)))
                        methods.update(own)
                        others = [item for item in node.body if not isinstance(item, ast.FunctionDef)]
                        self.assertTrue(all(isinstance(item, (ast.Expr, ast.Pass)) for item in others))
                    elif isinstance(node, ast.Attribute) and isinstance(node.ctx, ast.Store):
                        fields.add(node.attr)
                    elif isinstance(node, ast.FunctionDef):
                        self.assertEqual(node.decorator_list, [])
                        self.assertEqual((node.args.vararg, node.args.kwarg, node.args.posonlyargs), (None, None, []))
        self.assertEqual(sorted(methods & fields), [])

    def test_no_two_files_import_from_each_other(self):
        sources = {}
        for name in package_files():
            tree = ast.parse(text_of(name))
            sources[name] = {
                node.module.split(".")[1] + ".py" for node in ast.walk(tree) if isinstance(node, ast.ImportFrom)
            }
        while sources:
            free = [name for name in sources if not sources[name] & set(sources)]
            self.assertTrue(free, sorted(sources))
            for name in free:
                del sources[name]

    def test_methods_and_attributes(self):
        methods, fields, called, read = set(), set(), set(), set()
        for name in package_files():
            for node in ast.walk(ast.parse(text_of(name))):
                if isinstance(node, ast.ClassDef):
                    methods.update(item.name for item in node.body if isinstance(item, ast.FunctionDef))
                elif isinstance(node, ast.Call) and isinstance(node.func, ast.Attribute):
                    called.add(node.func.attr)
                elif isinstance(node, ast.Attribute):
                    (fields if isinstance(node.ctx, ast.Store) else read).add(node.attr)
        self.assertEqual(sorted(called - methods - METHODS), [])
        self.assertEqual(sorted(read - fields - methods - METHODS), [])
        every = {name for kind in BUILTIN_KINDS for name in dir(kind)}
        self.assertEqual(sorted((methods | fields) & every - SPECIAL), [])

    def test_bound_once_at_module_level_and_not_hidden(self):
        for name in package_files():
            tree = ast.parse(text_of(name))
            with self.subTest(name):
                bound = []
                for node in tree.body:
                    if isinstance(node, (ast.FunctionDef, ast.ClassDef)):
                        bound.append(node.name)
                    elif isinstance(node, ast.ImportFrom):
                        bound += [found.name for found in node.names]
                    elif isinstance(node, ast.Assign):
                        bound += [target.id for target in node.targets]
                    else:
                        self.assertIsInstance(node, ast.Expr)
                self.assertEqual(len(bound), len(set(bound)))
                self.assertEqual(sorted(self.locals_of(tree) & set(bound)), [])

    def locals_of(self, tree):
        """The parameters and variables of all functions of a file."""
        found = set()
        for function in ast.walk(tree):
            if isinstance(function, ast.FunctionDef):
                for node in ast.walk(function):
                    if isinstance(node, ast.arg):
                        found.add(node.arg)
                    elif isinstance(node, ast.Name) and isinstance(node.ctx, ast.Store):
                        found.add(node.id)
        return found

    def test_errors_are_raised_on_the_spot_and_caught_by_their_names(self):
        own = {node.name for node in ast.parse(text_of("errors.py")).body if isinstance(node, ast.ClassDef)}
        for name in package_files():
            with self.subTest(name):
                for node in ast.walk(ast.parse(text_of(name))):
                    if isinstance(node, ast.Raise):
                        self.assertIn(node.exc.func.id, own)
                    elif isinstance(node, ast.ExceptHandler):
                        self.assertIn(node.type.id, own)

    def test_identity_and_powers(self):
        for name in package_files():
            with self.subTest(name):
                for node in ast.walk(ast.parse(text_of(name))):
                    if isinstance(node, ast.Compare):
                        for operator, right in zip(node.ops, node.comparators):
                            if isinstance(operator, (ast.Is, ast.IsNot)):
                                self.assertIn(right.value, (None, True, False))
                    elif isinstance(node, ast.BinOp) and isinstance(node.op, ast.Pow):
                        self.assertIsInstance(node.right, ast.Constant)

    def test_sets(self):
        """A set is made by a statement of its own, kept in a local variable, and only asked or added to."""
        for name in package_files():
            for function in ast.walk(ast.parse(text_of(name))):
                if isinstance(function, ast.FunctionDef):
                    with self.subTest(file=name, function=function.name):
                        self.check_sets(function)

    def check_sets(self, function):
        kept, made, uses = [], 0, 0
        for node in ast.walk(function):
            value = getattr(node, "value", None)
            if isinstance(node, ast.Assign) and self.makes_set(value):
                kept.append(node.targets[0].id)
            made += self.makes_set(node)
        self.assertEqual((made, len(set(kept))), (len(kept), len(kept)))
        for node in ast.walk(function):
            if isinstance(node, ast.Name) and node.id in kept:
                uses += 1
            elif isinstance(node, ast.Assign) and isinstance(node.targets[0], ast.Name):
                uses -= node.targets[0].id in kept
            elif isinstance(node, ast.Attribute) and isinstance(node.value, ast.Name) and node.value.id in kept:
                self.assertIn(node.attr, ("add", "discard"))
                uses -= 1
            elif isinstance(node, ast.Compare) and isinstance(node.comparators[0], ast.Name):
                uses -= node.comparators[0].id in kept and isinstance(node.ops[0], (ast.In, ast.NotIn))
            elif isinstance(node, ast.Call) and getattr(node.func, "id", "") in ("sorted", "len"):
                uses -= isinstance(node.args[0], ast.Name) and node.args[0].id in kept
        self.assertEqual(uses, 0)

    def makes_set(self, node):
        called = isinstance(node, ast.Call) and getattr(node.func, "id", "") in ("set", "frozenset")
        return called or isinstance(node, (ast.Set, ast.SetComp))
