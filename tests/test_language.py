"""Holds the package's files against the language rules, as far as a walk over their trees can see them."""

import ast
import builtins
import pathlib
import re
import unittest

PACKAGE = pathlib.Path(__file__).resolve().parent.parent / "roundglass"

STATEMENTS = (
    ast.Assign, ast.AugAssign, ast.If, ast.While, ast.For, ast.Return, ast.Break, ast.Continue, ast.Pass, ast.Raise,
    ast.Try, ast.Expr, ast.FunctionDef, ast.ClassDef, ast.ImportFrom,
)
EXPRESSIONS = (
    ast.Constant, ast.Name, ast.Tuple, ast.List, ast.Dict, ast.Set, ast.BinOp, ast.UnaryOp, ast.BoolOp, ast.Compare,
    ast.IfExp, ast.Call, ast.Attribute, ast.Subscript, ast.Slice, ast.ListComp, ast.JoinedStr, ast.FormattedValue,
    ast.Lambda,
)
BUILT_IN = set(
    "len range enumerate zip min max sum abs sorted reversed int str bool list tuple dict set frozenset isinstance ord"
    " repr any all divmod Exception ValueError TypeError KeyError IndexError LookupError ZeroDivisionError"
    " ArithmeticError OverflowError RuntimeError NotImplementedError AttributeError StopIteration".split()
)
METHODS = set(
    "append clear copy count endswith extend find get index insert isalnum isalpha isdigit islower isspace isupper"
    " items join keys ljust lower lstrip partition pop remove replace reverse rfind rjust rpartition rsplit rstrip"
    " setdefault split splitlines startswith strip update upper values zfill bit_length".split()
)
DUNDERS = ("__init__", "__eq__", "__repr__", "__str__", "__len__")
NO_NAMES = set(
    "register mro elements open input version_info with_traceback add_note attrgetter breakpoint builtins compile"
    " copyright credits delattr dir eval exec exit gc getattr globals hasattr help id importlib license locals"
    " methodcaller os quit setattr super type vars sys chr".split()
)
NO_WORDS = re.compile(
    r"\b(type|typing|typing_extensions|enum|Enum|IntEnum|StrEnum|Flag|IntFlag|Generic|Protocol|ABC|ABCMeta|namedtuple"
    r"|NamedTuple|TypedDict|TYPE_CHECKING|abstractmethod)\b|dataclass|overload|contextmanager"
)
PLAIN = re.compile(r"[A-Za-z][A-Za-z0-9_]*\Z")


def text_faults(text):
    rows = text.split("\n")
    faults = [f"{k}: L14 sign" for k, row in enumerate(rows, 1) if any(not " " <= sign <= "~" for sign in row)]
    faults += [f"{k}: L10 width" for k, row in enumerate(rows, 1) if len(row) > 120]
    faults += [f"{k}: L17 word" for k, row in enumerate(rows, 1) if NO_WORDS.search(row)]
    return faults + (["L10 rows"] if len(rows) > 401 else [])


def bound_names(node):
    if isinstance(node, ast.Name) and isinstance(node.ctx, ast.Store):
        return [node.id]
    if isinstance(node, ast.arg):
        return [node.arg]
    if isinstance(node, (ast.FunctionDef, ast.ClassDef)):
        return [node.name]
    return []


def statement_fault(node):
    if not isinstance(node, STATEMENTS):
        return "L6 statement"
    if isinstance(node, ast.Assign) and len(node.targets) != 1:
        return "L6 targets"
    if isinstance(node, (ast.For, ast.While)) and node.orelse:
        return "L6 else"
    if isinstance(node, ast.Try) and node.finalbody:
        return "L6 finally"
    if isinstance(node, ast.Expr) and not isinstance(node.value, ast.Call):
        return "L6 expression"
    if isinstance(node, ast.ImportFrom) and (node.level or not node.module.startswith("roundglass.")):
        return "L2 import"
    if isinstance(node, ast.ImportFrom) and any(name.name == "*" or name.asname for name in node.names):
        return "L2 import"
    if isinstance(node, (ast.FunctionDef, ast.ClassDef)) and node.decorator_list:
        return "L4 decorator"
    if isinstance(node, ast.FunctionDef) and node.end_lineno - node.lineno >= 40:
        return "L10 size"
    return None


def number_fault(node):
    if isinstance(node, ast.Constant) and isinstance(node.value, (float, complex, bytes)):
        return "L7 value"
    if isinstance(node, ast.Constant) and isinstance(node.value, str) and "%" in node.value:
        return "L27 sign"
    if isinstance(node, (ast.BinOp, ast.AugAssign)) and isinstance(node.op, (ast.Div, ast.MatMult)):
        return "L7 operator"
    if isinstance(node, ast.BinOp) and isinstance(node.op, ast.Pow) and not isinstance(node.right, ast.Constant):
        return "L27 exponent"
    return None


def expression_fault(node):
    if isinstance(node, ast.expr) and not isinstance(node, EXPRESSIONS):
        return "L7 expression"
    if isinstance(node, ast.FormattedValue) and (node.format_spec or not isinstance(node.value, ast.Name)):
        return "L7 f-string"
    if isinstance(node, ast.ListComp) and (len(node.generators) != 1 or len(node.generators[0].ifs) > 1):
        return "L7 comprehension"
    if isinstance(node, ast.Compare) and any(isinstance(op, (ast.Is, ast.IsNot)) for op in node.ops):
        if ast.unparse(node.comparators[0]) not in ("None", "True", "False"):
            return "L20 is"
    if isinstance(node, ast.arguments) and (node.vararg or node.kwarg or node.kwonlyargs or node.posonlyargs):
        return "L4 parameters"
    return number_fault(node)


def name_fault(node):
    for name in bound_names(node):
        if not (PLAIN.match(name) or name in DUNDERS):
            return "L12 name"
        if name in NO_NAMES or name in dir(builtins):
            return "L15 name"
    if isinstance(node, ast.Name) and isinstance(node.ctx, ast.Load):
        if node.id in NO_NAMES or (node.id in dir(builtins) and node.id not in BUILT_IN):
            return "L8 name"
    if isinstance(node, ast.Attribute) and (node.attr.startswith("_") and node.attr not in DUNDERS):
        return "L8 attribute"
    return None


def own_methods(tree):
    classes = [node for node in tree.body if isinstance(node, ast.ClassDef)]
    return {node.name for one in classes for node in one.body if isinstance(node, ast.FunctionDef)}


def top_fault(node):
    if isinstance(node, (ast.FunctionDef, ast.ClassDef, ast.ImportFrom)):
        return None
    if isinstance(node, ast.Assign) and not any(isinstance(part, ast.Call) for part in ast.walk(node)):
        return None
    return "L3 top"


def top_names(tree):
    names = []
    for node in tree.body:
        for part in ast.walk(node) if isinstance(node, ast.Assign) else [node]:
            names += bound_names(part)
    return names


def imported_names(tree):
    return [name.name for node in tree.body if isinstance(node, ast.ImportFrom) for name in node.names]


def is_walk(node):
    if not isinstance(node, ast.Call):
        return False
    if isinstance(node.func, ast.Attribute):
        return node.func.attr in ("items", "keys", "values")
    return isinstance(node.func, ast.Name) and node.func.id in ("zip", "enumerate", "reversed", "range")


def walked_on_the_spot(tree):
    places = []
    for node in ast.walk(tree):
        if isinstance(node, (ast.For, ast.comprehension)):
            places.append(node.iter)
        if isinstance(node, ast.Call) and isinstance(node.func, ast.Name) and node.args:
            if node.func.id in ("list", "tuple", "dict", "sorted", "sum", "any", "all", "enumerate", "zip"):
                places.append(node.args[0])
            if node.func.id in ("min", "max") and len(node.args) == 1:
                places.append(node.args[0])
        if isinstance(node, ast.Call) and isinstance(node.func, ast.Attribute) and node.func.attr == "join":
            places += node.args
    return places


def walk_faults(tree):
    spots = walked_on_the_spot(tree)
    return [f"{node.lineno}: L23 kept" for node in ast.walk(tree) if is_walk(node) and node not in spots]


def unused_faults(tree):
    used = {node.id for node in ast.walk(tree) if isinstance(node, ast.Name)}
    return [f"unused {name}" for name in imported_names(tree) if name not in used]


def shadow_faults(tree):
    names = top_names(tree) + imported_names(tree)
    faults = [f"L15 twice {name}" for name in sorted(set(names)) if names.count(name) > 1]
    taken = imported_names(tree) + [node.name for node in tree.body if isinstance(node, ast.ClassDef)]
    for node in tree.body:
        if isinstance(node, (ast.FunctionDef, ast.ClassDef)):
            for part in list(ast.walk(node))[1:]:
                faults += [f"{node.lineno}: L15 {name}" for name in bound_names(part) if name in taken]
    return faults


def tree_faults(text):
    tree = ast.parse(text)
    if tree.body and isinstance(tree.body[0], ast.Expr) and ast.get_docstring(tree) is not None:
        tree.body.pop(0)
    faults = [f"{node.lineno}: {top_fault(node)}" for node in tree.body if top_fault(node)]
    methods = METHODS | own_methods(tree)
    for node in ast.walk(tree):
        if isinstance(node, ast.Call) and isinstance(node.func, ast.Attribute) and node.func.attr not in methods:
            faults.append(f"{node.lineno}: L25 method")
        told = [expression_fault(node), name_fault(node)]
        if isinstance(node, ast.stmt):
            told.append(statement_fault(node))
        faults += [f"{getattr(node, 'lineno', 0)}: {fault}" for fault in told if fault]
    return faults + shadow_faults(tree) + walk_faults(tree) + unused_faults(tree)


def faults_of(text):
    return text_faults(text) + tree_faults(text)


def drawn_from(path):
    tree = ast.parse(path.read_text())
    return [node.module.split(".")[1] for node in tree.body if isinstance(node, ast.ImportFrom)]


class Package(unittest.TestCase):
    def files(self):
        return sorted(PACKAGE.glob("*.py"))

    def test_nothing_but_plain_files(self):
        for path in PACKAGE.iterdir():
            if path.name != "__pycache__":
                self.assertRegex(path.name, r"\A([a-z][a-z0-9_]*|__init__|__main__)\.py\Z")
        self.assertTrue((PACKAGE / "__init__.py").is_file())

    def test_each_file(self):
        for path in self.files():
            self.assertEqual(faults_of(path.read_text(encoding="utf-8")), [], path.name)

    def test_each_name_comes_from_the_file_that_defines_it(self):
        for path in self.files():
            for node in ast.parse(path.read_text()).body:
                if isinstance(node, ast.ImportFrom):
                    source = PACKAGE / (node.module.split(".")[1] + ".py")
                    own = top_names(ast.parse(source.read_text()))
                    for name in node.names:
                        self.assertIn(name.name, own, path.name)

    def test_no_file_draws_from_itself_in_however_many_steps(self):
        draws = {path.stem: drawn_from(path) for path in self.files()}
        for start in draws:
            reached, ahead = set(), list(draws[start])
            while ahead:
                name = ahead.pop()
                if name not in reached:
                    reached.add(name)
                    ahead += draws[name]
            self.assertNotIn(start, reached)


class Checker(unittest.TestCase):
    def test_faults_are_seen(self):
        for text in (
            "import math\n", "from math import gcd\n", "from .errors import NoRatio\n", "x = 1.5\n",
            "def f(a):\n    return a / 2\n", "def f(*a):\n    return a\n", "def f(a):\n    x = y = a\n",
            "def f(a):\n    return 2 ** a\n", "def f(_):\n    return 1\n", "def f(id):\n    return 1\n",
            "def f(a):\n    return a.sort()\n", "def f(a):\n    return type(a)\n", "def f(a):\n\treturn a\n",
            "def f(a):\n    assert a\n", "def f(a):\n    return {x for x in a}\n", "def f(a):\n    return a is 1\n",
            "def f(a):\n    'words'\n    return a\n", "x = list()\n", "x = 1\nx = 2\n", "# \u00e4\n",
            "def f(a):\n    return chr(a)\n", "def f():\n" + "    pass\n" * 40, "print(1)\n",
            "from roundglass.errors import NoRatio\ndef f(NoRatio):\n    return 1\n",
            "def f(a):\n    b = zip(a, a)\n    return list(b)\n", "def f(a):\n    return a.items()\n",
            "def f(a):\n    return zip(a, reversed(a))\n", "def f(a):\n    return f'{a[0]}'\n", "from roundglass.errors import NoRatio\n",
        ):
            self.assertNotEqual(faults_of(text), [], text)

    def test_plain_code_is_let_by(self):
        text = '"""Words."""\n\nNOUGHT = (0, 1)\n\n\ndef f(a, b=1):\n    for k, x in enumerate(a):\n        b += k * x\n'
        self.assertEqual(faults_of(text + "    return [y for y in a if y is not None]\n"), [])


if __name__ == "__main__":
    unittest.main()
