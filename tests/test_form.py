"""The form of the code (LANGUAGE.md), and of promise 2 that nothing hangs on a clock, chance or files.

Only some of the rules are looked for here (L2, L4 to L8, L10, L12, L14 to L18, L20, L25, L26, and of most of them
a part alone); a module that passes may still break others, which a reader must see.
"""

import ast
import builtins
import pathlib
import re
import unittest

PACKAGE = pathlib.Path(__file__).resolve().parent.parent / "waithouse"

STATEMENTS = (
    "Module FunctionDef ClassDef Assign AugAssign AnnAssign If While For Return Break Continue Pass Raise Try "
    "ExceptHandler Expr Import ImportFrom alias arguments arg keyword"
)
EXPRESSIONS = (
    "Constant Name Load Store Attribute Subscript Slice Call Compare BoolOp BinOp UnaryOp IfExp Lambda List Tuple "
    "Dict Set ListComp comprehension JoinedStr FormattedValue And Or Not Invert UAdd USub Add Sub Mult FloorDiv Mod "
    "Pow LShift RShift BitOr BitXor BitAnd Eq NotEq Lt LtE Gt GtE Is IsNot In NotIn"
)
NODES = set((STATEMENTS + " " + EXPRESSIONS).split())
# chr is out by L27, print is for __main__.py alone.
OWN_NAMES_OF_PYTHON = set(
    "len range enumerate zip min max sum abs sorted reversed int str bool list tuple dict set frozenset isinstance "
    "ord repr any all divmod Exception ValueError TypeError KeyError IndexError LookupError ZeroDivisionError "
    "ArithmeticError OverflowError RuntimeError NotImplementedError AttributeError StopIteration".split()
)
METHODS_OF_PYTHON = set(
    "append clear copy count endswith extend find get index insert isalnum isalpha isdigit islower isspace isupper "
    "items join keys ljust lower lstrip partition pop remove replace reverse rfind rjust rpartition rsplit rstrip "
    "setdefault split splitlines startswith strip update upper values zfill bit_length".split()
)
TWO_UNDERSCORES = set("__init__ __eq__ __repr__ __str__ __len__ __all__ __version__ __name__".split())
NAMES_NOT_USED = set(
    "register mro elements open input version_info with_traceback add_note format format_map attrgetter breakpoint "
    "builtins compile copyright credits delattr dir eval exec exit gc getattr globals hasattr help id importlib "
    "license locals methodcaller os quit setattr super sys type vars".split()
)
VALUES_NOT_USED = set(
    "items keys values pop update append clear extend insert remove reverse setdefault sort args encode format".split()
)
WORDS_NOT_USED = re.compile(
    r"\b(type|typing|typing_extensions|enum|Enum|IntEnum|StrEnum|Flag|IntFlag|Generic|Protocol|ABC|ABCMeta|namedtuple"
    r"|NamedTuple|TypedDict|TYPE_CHECKING|abstractmethod)\b|dataclass|overload|contextmanager"
)


def names_bound(node):
    """The names that a node gives a meaning to or asks for, so that their spelling can be looked at."""
    if isinstance(node, ast.Name):
        return [node.id]
    if isinstance(node, ast.Attribute):
        return [node.attr]
    if isinstance(node, ast.arg):
        return [node.arg]
    if isinstance(node, (ast.FunctionDef, ast.ClassDef)):
        return [node.name]
    return []


def text_faults(text):
    faults = []
    lines = text.split("\n")
    if len(lines) > 400:
        faults.append(("L10", 400))
    for number, line in enumerate(lines, start=1):
        if len(line) > 120:
            faults.append(("L10", number))
        if any(not " " <= sign <= "~" for sign in line):
            faults.append(("L14", number))
        if WORDS_NOT_USED.search(line):
            faults.append(("L17", number))
    return faults


def name_faults(node):
    faults = []
    for name in names_bound(node):
        if name.startswith("_") and name not in TWO_UNDERSCORES:
            faults.append(("L12", node.lineno))
        if name in NAMES_NOT_USED:
            faults.append(("L17", node.lineno))
        elif isinstance(node, ast.Name) and hasattr(builtins, name) and name not in OWN_NAMES_OF_PYTHON:
            faults.append(("L8", node.lineno))
        bound_here = isinstance(node, ast.arg) or isinstance(getattr(node, "ctx", None), ast.Store)
        if bound_here and not isinstance(node, ast.Attribute) and hasattr(builtins, name):
            faults.append(("L15", node.lineno))
    return faults


def function_faults(node):
    faults = []
    if node.end_lineno - node.lineno + 1 > 40:
        faults.append(("L10", node.lineno))
    form = node.args
    if node.decorator_list or form.vararg or form.kwarg or form.kwonlyargs or form.posonlyargs:
        faults.append(("L4", node.lineno))
    if node.name.startswith("__") and node.name not in TWO_UNDERSCORES:
        faults.append(("L5", node.lineno))
    return faults


def is_plain(node):
    return isinstance(node, ast.Constant) and (node.value is None or isinstance(node.value, bool))


def node_faults(node):
    kind = node.__class__.__name__
    line = getattr(node, "lineno", 0)
    faults = name_faults(node)
    if kind not in NODES:
        faults.append(("L6/L7", line))
    if kind == "FunctionDef":
        faults += function_faults(node)
    if kind == "ClassDef" and (node.decorator_list or len(node.bases) > 1 or node.keywords):
        faults.append(("L5", line))
    if kind == "Import" or kind == "ImportFrom" and not (
        node.level == 0 and node.module.startswith("waithouse.") and all(part.name != "*" for part in node.names)
    ):
        faults.append(("L2/L16", line))
    if kind == "Assign" and len(node.targets) > 1:
        faults.append(("L6", line))
    if kind in ("For", "While") and node.orelse or kind == "Try" and node.finalbody:
        faults.append(("L6", line))
    if kind == "Constant" and isinstance(node.value, (float, complex, bytes)):
        faults.append(("L7", line))
    if kind == "ListComp" and (len(node.generators) > 1 or len(node.generators[0].ifs) > 1):
        faults.append(("L7", line))
    if kind == "Compare" and any(isinstance(sign, (ast.Is, ast.IsNot)) for sign in node.ops):
        if not any(is_plain(side) for side in [node.left] + node.comparators):
            faults.append(("L20", line))
    return faults


def method_faults(tree, own_methods):
    faults = []
    for node in ast.walk(tree):
        if isinstance(node, ast.Call) and isinstance(node.func, ast.Attribute):
            if node.func.attr not in METHODS_OF_PYTHON | own_methods:
                faults.append(("L25", node.lineno))
    return faults


def methods_of(tree):
    methods = {"__init__"}
    for node in ast.walk(tree):
        if isinstance(node, ast.ClassDef):
            methods.update(part.name for part in node.body if isinstance(part, ast.FunctionDef))
    return methods


def values_of(tree):
    """The names by which objects keep something."""
    return {node.attr for node in ast.walk(tree) if isinstance(node, ast.Attribute) and isinstance(node.ctx, ast.Store)}


def value_faults(trees):
    """Names of values that may not be such, or that are a method in some class of the package."""
    methods = set().union(*[methods_of(tree) for tree in trees])
    values = set().union(*[values_of(tree) for tree in trees])
    both = [("L18", name) for name in sorted(values & methods)]
    return both + [("L26", name) for name in sorted(values & VALUES_NOT_USED)]


def local_faults(tree):
    """Parameters and locals that are called like a class or an import of the file."""
    taken = {part.name for part in tree.body if isinstance(part, ast.ClassDef)}
    taken.update(name for names in drawn_from(tree).values() for name in names)
    faults = []
    for node in ast.walk(tree):
        if isinstance(node, ast.arg) and node.arg in taken:
            faults.append(("L15", node.lineno))
        if isinstance(node, ast.Name) and isinstance(node.ctx, ast.Store) and node.id in taken:
            faults.append(("L15", node.lineno))
    return faults


def faults_of(text, own_methods=frozenset()):
    """The rules that a module's text breaks, each with the line."""
    tree = ast.parse(text)
    faults = text_faults(text)
    for node in ast.walk(tree):
        faults += node_faults(node)
    return faults + local_faults(tree) + method_faults(tree, methods_of(tree) | own_methods)


def drawn_from(tree):
    """For each file of the package that a module draws from, the names that it takes."""
    found = {}
    for node in tree.body:
        if isinstance(node, ast.ImportFrom):
            found.setdefault(node.module.removeprefix("waithouse."), []).extend(part.name for part in node.names)
    return found


def defined_in(tree):
    return [part.name for part in tree.body if isinstance(part, (ast.FunctionDef, ast.ClassDef))]


def import_faults(trees):
    """Modules that take a name from a file that does not define it, or that draw from one another."""
    faults = []
    for module, tree in trees.items():
        for source, names in drawn_from(tree).items():
            faults += [(module, name) for name in names if name not in defined_in(trees[source])]
        reached = list(drawn_from(tree))
        for source in reached:
            reached += [other for other in drawn_from(trees[source]) if other not in reached]
        if module in reached:
            faults.append((module, module))
    return faults


def package_files():
    return sorted(path for path in PACKAGE.rglob("*") if "__pycache__" not in path.parts and path.is_file())


class Form(unittest.TestCase):
    def test_only_plainly_named_modules_lie_in_the_package(self):
        names = [path.relative_to(PACKAGE).as_posix() for path in package_files()]
        self.assertIn("__init__.py", names)
        for name in names:
            with self.subTest(name=name):
                self.assertRegex(name, r"^(__init__|[a-z][a-z0-9_]*)\.py$")
                self.assertFalse(name.startswith("test"))
                self.assertNotIn(name[:-3], [word for word in dir(builtins) if not word.startswith("_")])

    def test_each_module_keeps_to_the_rules(self):
        texts = {path.name: path.read_text(encoding="utf-8") for path in package_files()}
        own_methods = set().union(*[methods_of(ast.parse(text)) for text in texts.values()])
        for name, text in texts.items():
            with self.subTest(name=name):
                self.assertEqual(faults_of(text, own_methods), [])

    def test_names_are_drawn_from_the_file_that_defines_them_and_never_in_a_round(self):
        trees = {path.stem: ast.parse(path.read_text(encoding="utf-8")) for path in package_files()}
        self.assertEqual(import_faults(trees), [])

    def test_no_name_is_a_method_and_a_value(self):
        self.assertEqual(value_faults([ast.parse(path.read_text(encoding="utf-8")) for path in package_files()]), [])

    def test_broken_values_are_seen(self):
        one = ast.parse("class A:\n    def room(self):\n        self.times = 1\n")
        two = ast.parse("class B:\n    def __init__(self):\n        self.room = 1\n")
        three = ast.parse("class C:\n    def __init__(self):\n        self.items = 1\n")
        self.assertEqual(value_faults([one]), [])
        self.assertEqual(value_faults([one, two]), [("L18", "room")])
        self.assertEqual(value_faults([one, three]), [("L26", "items")])

    def test_broken_imports_are_seen(self):
        one = ast.parse("from waithouse.two import g\ndef f():\n    return g()\n")
        two = ast.parse("from waithouse.one import f\ndef g():\n    return f()\n")
        three = ast.parse("from waithouse.one import g\n")
        plain = ast.parse("def g():\n    return 1\n")
        self.assertEqual(import_faults({"one": one, "two": plain}), [])
        self.assertEqual(import_faults({"one": one, "two": two}), [("one", "one"), ("two", "two")])
        self.assertEqual(import_faults({"one": one, "two": plain, "three": three}), [("three", "g")])

    def test_broken_rules_are_seen(self):
        samples = (
            ("import time\n", "L2/L16"),
            ("from random import choice\n", "L2/L16"),
            ("from .errors import NoLink\n", "L2/L16"),
            ("from waithouse.errors import *\n", "L2/L16"),
            ("def f(*xs):\n    return xs\n", "L4"),
            ("def f():\n    with f() as x:\n        return x\n", "L6/L7"),
            ("def f():\n    a = b = 1\n    return a + b\n", "L6"),
            ("def f(x):\n    return x / 2\n", "L6/L7"),
            ("X = 1.5\n", "L7"),
            ("def f(x):\n    return sum(y for y in x)\n", "L6/L7"),
            ("def f(x):\n    return [z for y in x for z in y]\n", "L7"),
            ("def f(x):\n    return [y for y in x if y if y > 1]\n", "L7"),
            ("def f(x):\n    return print(x)\n", "L8"),
            ("def f(x):\n    return open(x)\n", "L17"),
            ("def f():\n" + "    f()\n" * 40, "L10"),
            ("X = '" + "x" * 120 + "'\n", "L10"),
            ("def hidden(_x):\n    return _x\n", "L12"),
            ("X = '\u00e9'\n", "L14"),
            ("def f(id):\n    return 1\n", "L15"),
            ("from waithouse.rooms import room\ndef f(room):\n    return 1\n", "L15"),
            ("from waithouse.rooms import room\ndef f():\n    room = 1\n    return room\n", "L15"),
            ("# the type of x\n", "L17"),
            ("def f(x, y):\n    return x is y\n", "L20"),
            ("def f(x):\n    return x.sort()\n", "L25"),
        )
        for text, rule in samples:
            with self.subTest(text=text):
                self.assertIn(rule, [fault[0] for fault in faults_of(text)])


if __name__ == "__main__":
    unittest.main()
