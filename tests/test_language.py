"""The package keeps to ../shared/LANGUAGE.md: the rules that can be seen in one file's tree.

L11, L13, L15, L18, L19, L22 to L24, L26 and L28 are looked at in part or not at all here. L18's rule on methods
and values is seen over all files at once.
"""

import ast
import builtins
import re
import unittest
from pathlib import Path

PACKAGE = Path(__file__).resolve().parent.parent / "carry"

NODES = """
Module ImportFrom alias FunctionDef ClassDef arguments arg Return Assign AugAssign AnnAssign For While If
Raise Try ExceptHandler Expr Pass Break Continue Constant Name Attribute Subscript Slice Call keyword List
Tuple Dict Set ListComp comprehension BoolOp And Or UnaryOp Not USub UAdd Invert BinOp Add Sub Mult FloorDiv
Mod Pow LShift RShift BitAnd BitOr BitXor Compare Eq NotEq Lt LtE Gt GtE In NotIn Is IsNot IfExp JoinedStr
FormattedValue Lambda Load Store
""".split()
OWN_NAMES = """
len range enumerate zip min max sum abs sorted reversed int str bool list tuple dict set frozenset isinstance
ord repr any all divmod Exception ValueError TypeError KeyError IndexError LookupError ZeroDivisionError
ArithmeticError OverflowError RuntimeError NotImplementedError AttributeError StopIteration
""".split()
METHODS = """
append clear copy count endswith extend find get index insert isalnum isalpha isdigit islower isspace isupper
items join keys ljust lower lstrip partition pop remove replace reverse rfind rjust rpartition rsplit rstrip
setdefault split splitlines startswith strip update upper values zfill bit_length
""".split()
DOUBLE = "__init__ __eq__ __repr__ __str__ __len__ __all__ __version__ __name__".split()
NEVER = """
register mro elements open input version_info with_traceback add_note attrgetter breakpoint builtins compile
copyright credits delattr dir eval exec exit gc getattr globals hasattr help id importlib license locals
methodcaller os quit setattr super vars sys format format_map
""".split()
WORDS = re.compile(
    r"\b(type|typing|typing_extensions|enum|Enum|IntEnum|StrEnum|Flag|IntFlag|Generic|Protocol|ABC|ABCMeta"
    r"|namedtuple|NamedTuple|TypedDict|TYPE_CHECKING|abstractmethod)\b|dataclass|overload|contextmanager"
)
KEYWORDS = {
    "sorted": ("key", "reverse"), "min": ("key", "default"), "max": ("key", "default"),
    "sum": ("start",), "enumerate": ("start",), "zip": ("strict",),
}
WALKED = ("zip", "enumerate", "reversed", "range")
WALKERS = ("list", "tuple", "dict", "sorted", "sum", "any", "all", "enumerate", "zip", "min", "max")
PYTHONS_OWN = {name for kind in (str, int, list, dict, set, bytes, tuple) for name in dir(kind)}


def parts():
    return sorted(path for path in PACKAGE.rglob("*") if "__pycache__" not in path.parts)


def trees():
    return [(path.name, ast.parse(path.read_text("ascii"))) for path in parts()]


def faults(tree):
    """The faults of one tree, as texts."""
    docstring = tree.body[0] if tree.body and ast.get_docstring(tree) is not None else None
    for node in ast.walk(tree):
        line = getattr(node, "lineno", 0)
        for fault in node_faults(node, docstring):
            yield f"line {line}: {fault}"


def node_faults(node, docstring):
    if type(node).__name__ not in NODES:
        yield f"L6, L7: {type(node).__name__}"
    if isinstance(node, ast.Expr) and node is not docstring and not isinstance(node.value, ast.Call):
        yield "L6: neither a call nor the file's docstring stands by itself"
    if isinstance(node, ast.ImportFrom):
        ahead = (node.module or "").split(".")[0]
        if node.level or ahead not in ("carry", "__future__") or node.names[0].name == "*":
            yield "L2: an import from elsewhere"
    if isinstance(node, (ast.For, ast.While)) and node.orelse:
        yield "L6: else behind a loop"
    if isinstance(node, ast.Assign) and len(node.targets) > 1:
        yield "L6: more than one target"
    if isinstance(node, ast.Constant) and not isinstance(node.value, (int, str, type(None))):
        yield "L7: a value of another kind"
    if isinstance(node, ast.Constant) and isinstance(node.value, str) and "%" in node.value:
        yield "L27: a percent sign in a text"
    yield from scope_faults(node)
    yield from name_faults(node)
    yield from use_faults(node)


def scope_faults(node):
    if isinstance(node, (ast.FunctionDef, ast.ClassDef)) and node.decorator_list:
        yield "L4, L5: a decorator"
    if isinstance(node, ast.FunctionDef):
        if node.end_lineno - node.lineno + 1 > 40:
            yield "L10: a function of more than 40 lines"
        if node.args.vararg or node.args.kwarg or node.args.kwonlyargs or node.args.posonlyargs:
            yield "L4: a parameter that is not plain"
    if isinstance(node, ast.ClassDef):
        if len(node.bases) > 1 or node.keywords:
            yield "L5: more than one base"
        if not all(isinstance(row, (ast.FunctionDef, ast.Pass)) for row in node.body):
            yield "L5: more than methods in a class"
    if isinstance(node, ast.ListComp) and (len(node.generators) > 1 or len(node.generators[0].ifs) > 1):
        yield "L7: a comprehension with more than one for or if"
    if isinstance(node, ast.FormattedValue):
        plain = isinstance(node.value, ast.Name) and node.format_spec is None
        if not plain or node.conversion not in (-1, ord("r")):
            yield "L7: an f-string with more than a name"
    if isinstance(node, ast.ExceptHandler) and node.type is None:
        yield "L6: an except of all"


def name_faults(node):
    name = None
    if isinstance(node, ast.Name):
        name = node.id
        bound = not isinstance(node.ctx, ast.Load)
        if hasattr(builtins, name) and (bound or name not in OWN_NAMES):
            yield f"L8, L15: {name}"
    elif isinstance(node, ast.arg):
        name = node.arg
        if hasattr(builtins, name):
            yield f"L15: {name}"
    elif isinstance(node, ast.Attribute):
        name = node.attr
        if name in PYTHONS_OWN and name not in METHODS + DOUBLE + ["add", "discard", "title"]:
            yield f"L25, L26: {name}"
    elif isinstance(node, (ast.FunctionDef, ast.ClassDef)):
        name = node.name
    if name is not None:
        if not re.fullmatch("[A-Za-z][A-Za-z0-9_]*", name) and name not in DOUBLE:
            yield f"L12: {name}"
        if name in NEVER:
            yield f"L17: {name}"


def use_faults(node):
    if isinstance(node, ast.Compare):
        for sign, beside in zip(node.ops, node.comparators):
            plain = isinstance(beside, ast.Constant) and (beside.value is None or isinstance(beside.value, bool))
            if isinstance(sign, (ast.Is, ast.IsNot)) and not plain:
                yield "L20: is beside another thing"
    if isinstance(node, ast.Call) and node.keywords:
        name = node.func.id if isinstance(node.func, ast.Name) else None
        if isinstance(node.func, ast.Attribute) or name in OWN_NAMES:
            if not all(keyword.arg in KEYWORDS.get(name, ()) for keyword in node.keywords):
                yield "L22: a keyword at a name of Python's own"
    if isinstance(node, ast.BinOp) and isinstance(node.op, ast.Pow) and not isinstance(node.right, ast.Constant):
        yield "L27: an exponent that is not written"


def walk_faults(tree):
    """L23: what is walked at once but is kept; L24: sets at all, as the program has none."""
    walked = []
    for node in ast.walk(tree):
        if isinstance(node, (ast.For, ast.comprehension)):
            walked.append(node.iter)
        if isinstance(node, ast.Call) and isinstance(node.func, ast.Name) and node.func.id in WALKERS:
            walked += node.args
    for node in ast.walk(tree):
        if isinstance(node, ast.Call) and node not in walked:
            if isinstance(node.func, ast.Name) and node.func.id in WALKED:
                yield f"line {node.lineno}: L23: {node.func.id}"
            if isinstance(node.func, ast.Attribute) and node.func.attr in ("items", "keys", "values"):
                yield f"line {node.lineno}: L23: {node.func.attr}"
        if isinstance(node, ast.Set) or isinstance(node, ast.Name) and node.id in ("set", "frozenset"):
            yield f"line {node.lineno}: L24: a set"


def local_faults(tree):
    """L15: parameters and locals that are called like a class or an import of their file."""
    taken = [row.name for row in tree.body if isinstance(row, ast.ClassDef)]
    for row in tree.body:
        if isinstance(row, ast.ImportFrom):
            taken += [alias.asname or alias.name for alias in row.names]
    for node in ast.walk(tree):
        bound = isinstance(node, ast.Name) and isinstance(node.ctx, ast.Store)
        if bound and node.id in taken or isinstance(node, ast.arg) and node.arg in taken:
            yield f"line {node.lineno}: L15: called like a class or an import"


def methods_and_values(some_trees):
    """The names of methods of own classes, and those of values that objects are given."""
    methods, values = [], []
    for tree in some_trees:
        for node in ast.walk(tree):
            if isinstance(node, ast.ClassDef):
                methods += [row.name for row in node.body if isinstance(row, ast.FunctionDef)]
            if isinstance(node, ast.Attribute) and not isinstance(node.ctx, ast.Load):
                values.append(node.attr)
    return (methods, values)


class Language(unittest.TestCase):
    def test_only_python_files_with_plain_names(self):
        self.assertIn("__init__.py", [path.name for path in parts()])
        for path in parts():
            with self.subTest(path.name):
                self.assertRegex(path.name, r"^([a-z][a-z0-9_]*|__init__|__main__)\.py$")
                self.assertNotRegex(path.stem, "^(tests?|testing|test_.*|site|conftest|.*customize)$")
                self.assertFalse(path.stem[0] != "_" and hasattr(builtins, path.stem))

    def test_signs_rows_and_words(self):
        for path in parts():
            text = path.read_bytes().decode("ascii")
            rows = text.split("\n")
            with self.subTest(path.name):
                self.assertTrue(all(" " <= sign <= "~" or sign == "\n" for sign in text))
                self.assertLessEqual(len(rows) - 1, 400)
                self.assertLessEqual(max(len(row) for row in rows), 120)
                self.assertIsNone(WORDS.search(text))

    def test_trees(self):
        for name, tree in trees():
            with self.subTest(name):
                self.assertEqual(list(faults(tree)), [])
                self.assertEqual(list(walk_faults(tree)), [])
                self.assertEqual(list(local_faults(tree)), [])

    def test_top_of_a_file(self):
        for name, tree in trees():
            bound = []
            for row in tree.body:
                with self.subTest(name, line=row.lineno):
                    self.assertIsInstance(
                        row, (ast.Expr, ast.ImportFrom, ast.FunctionDef, ast.ClassDef, ast.Assign))
                if isinstance(row, ast.ImportFrom):
                    bound += [alias.asname or alias.name for alias in row.names]
                elif isinstance(row, (ast.FunctionDef, ast.ClassDef)):
                    bound.append(row.name)
                elif isinstance(row, ast.Assign):
                    bound.append(row.targets[0].id)
            self.assertEqual(len(bound), len(set(bound)), name)

    def test_methods_and_values(self):
        methods, values = methods_and_values([tree for name, tree in trees()])
        self.assertIn("line", values)
        self.assertIn("flight", methods)
        self.assertEqual(set(methods) & set(values), set())
        self.assertEqual([name for name in values if name in PYTHONS_OWN or name == "args"], [])
        self.assertEqual([name for name in methods if name in PYTHONS_OWN and name not in DOUBLE], [])
        for name, tree in trees():
            for row in tree.body:
                if isinstance(row, ast.ClassDef):
                    own = methods_and_values([row])[0]
                    self.assertEqual(len(own), len(set(own)), row.name)

    def test_no_two_files_draw_from_one_another(self):
        drawn = {}
        for name, tree in trees():
            rows = [row for row in tree.body if isinstance(row, ast.ImportFrom)]
            drawn["carry." + name[:-3]] = {row.module for row in rows}
        while drawn:
            free = [name for name in drawn if not drawn[name] & set(drawn)]
            self.assertTrue(free, f"these draw from one another: {sorted(drawn)}")
            for name in free:
                drawn.pop(name)


class Faults(unittest.TestCase):
    """That the look itself sees what it should."""

    def test_sees_what_is_outside(self):
        for text in (
            "import os", "from . import x", "from json import loads", "x = 1.0", "x = 1 / 2", "x = y = 1",
            "x = {a for a in b}", "x = (a for a in b)", "print(1)", "len = 1", "def f(*a):\n    pass",
            "def f(min):\n    pass", "def f():\n    'words'\n    return 1", "x.sort()", "x._y()", "_x = 1",
            "class A:\n    x = 1", "with x:\n    pass", "assert x", "del x", "for a in b:\n    pass\nelse:\n    pass",
            "x = f'{a.b}'", "x = f'{a:3}'", "x = '%'", "try:\n    f()\nexcept:\n    pass", "x = chr(1)",
            "x = a is b", "x = a is 1", "x = a.split(sep=b)", "x = str(object=a)", "x = sorted(a, cmp=b)", "x = 2 ** a",
        ):
            with self.subTest(text):
                self.assertNotEqual(list(faults(ast.parse(text))), [])

    def test_sees_what_is_kept_and_names_that_are_taken(self):
        for text in ("x = zip(a, b)", "x = a.items()", "f(range(3))", "x = {1, 2}", "x = set(a)"):
            with self.subTest(text):
                self.assertNotEqual(list(walk_faults(ast.parse(text))), [])
        for text in ("def f(g):\n    pass", "def f():\n    g = 1", "def f():\n    for g in a:\n        pass"):
            with self.subTest(text):
                self.assertNotEqual(list(local_faults(ast.parse("from carry.names import g\n" + text))), [])

    def test_sees_methods_and_values(self):
        text = "class A:\n    def f(self):\n        self.x = 1\n        self.y += self.z\n        self.w[0] = self.g()"
        self.assertEqual(methods_and_values([ast.parse(text)]), (["f"], ["x", "y"]))

    def test_lets_plain_code_be(self):
        text = (
            '"""Words."""\nfrom carry.names import is_name\nX = "a"\n\n\ndef f(a, b=1):\n'
            "    for k, c in enumerate(a):\n        if c in X and not is_name(c):\n"
            "            raise NoName(f'{c} {k!r}')\n    d = None\n    if d is None and b is not True:\n"
            "        d = sorted(range(b ** 2), key=len, reverse=True)\n    return [c for c in a if c != b]\n"
        )
        for look in (faults, walk_faults, local_faults):
            self.assertEqual(list(look(ast.parse(text))), [])


if __name__ == "__main__":
    unittest.main()
