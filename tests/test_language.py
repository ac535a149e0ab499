"""Whether the package keeps to its part of Python, as far as a walk through its files can see.

The rules' numbers are those of LANGUAGE.md; what is not looked at here is still asked for.
"""

import ast
import re
import unittest
from pathlib import Path

PACKAGE = Path(__file__).resolve().parent.parent / "kerb"

BUILTINS = set("""
    len range enumerate zip min max sum abs sorted reversed int str bool list tuple dict set frozenset isinstance ord
    repr any all divmod Exception ValueError TypeError KeyError IndexError LookupError ZeroDivisionError
    ArithmeticError OverflowError RuntimeError NotImplementedError AttributeError StopIteration
""".split())
METHODS = set("""
    append clear copy count endswith extend find get index insert isalnum isalpha isdigit islower isspace isupper
    items join keys ljust lower lstrip partition pop remove replace reverse rfind rjust rpartition rsplit rstrip
    setdefault split splitlines startswith strip update upper values zfill bit_length
""".split())
UNDERSCORED = {"__init__", "__eq__", "__repr__", "__str__", "__len__"}
BANNED_WORDS = re.compile(
    r"\b(type|typing|typing_extensions|enum|Enum|IntEnum|StrEnum|Flag|IntFlag|Generic|Protocol|ABC|ABCMeta"
    r"|namedtuple|NamedTuple|TypedDict|TYPE_CHECKING|abstractmethod)\b|dataclass|overload|contextmanager")
NODES = tuple(getattr(ast, name) for name in """
    Module FunctionDef ClassDef Lambda arguments arg ImportFrom alias Assign AugAssign If While For Return Break
    Continue Pass Raise Try ExceptHandler Expr Name Load Store Constant List Tuple Dict Set ListComp comprehension
    BinOp UnaryOp BoolOp Compare IfExp Call keyword Attribute Subscript Slice JoinedStr FormattedValue
    operator unaryop boolop cmpop
""".split())
FLAT = (ast.Constant, ast.UnaryOp, ast.List, ast.Tuple, ast.Dict)


def file_faults(source):
    rows = source.split("\n")
    faults = []
    if len(rows) > 401 or any(len(row) > 120 for row in rows):
        faults.append("L10 size")
    if any(sign != "\n" and not " " <= sign <= "~" for sign in source):
        faults.append("L14 signs")
    if BANNED_WORDS.search(source):
        faults.append("L17 words")
    return faults


def top_faults(tree):
    faults = []
    for place, node in enumerate(tree.body):
        docstring = place == 0 and isinstance(node, ast.Expr) and isinstance(node.value, ast.Constant)
        plain = isinstance(node, ast.Assign) and isinstance(node.value, FLAT)
        if not docstring and not plain and not isinstance(node, (ast.ImportFrom, ast.FunctionDef, ast.ClassDef)):
            faults.append(f"L3 line {node.lineno}")
    return faults


def names_bound(tree):
    bound = set()
    for node in ast.walk(tree):
        if isinstance(node, (ast.FunctionDef, ast.ClassDef)):
            bound.add(node.name)
        elif isinstance(node, ast.arg):
            bound.add(node.arg)
        elif isinstance(node, ast.alias):
            bound.add(node.asname or node.name)
        elif isinstance(node, ast.Name) and isinstance(node.ctx, ast.Store):
            bound.add(node.id)
        elif isinstance(node, ast.ExceptHandler) and node.name:
            bound.add(node.name)
    return bound


def node_fault(node, bound):
    if not isinstance(node, NODES) or isinstance(node, (ast.Div, ast.MatMult)):
        return "L6 or L7 form"
    if isinstance(node, ast.ImportFrom) and (node.level or not re.fullmatch(r"kerb\.[a-z_]+", node.module)):
        return "L2 import"
    if isinstance(node, ast.alias) and node.name == "*":
        return "L2 import"
    if isinstance(node, (ast.FunctionDef, ast.ClassDef)) and node.decorator_list:
        return "L4 or L5 decorator"
    if isinstance(node, ast.FunctionDef) and node.end_lineno - node.lineno >= 40:
        return "L10 size"
    if isinstance(node, ast.arguments) and (node.vararg or node.kwarg or node.kwonlyargs or node.posonlyargs):
        return "L4 parameters"
    if isinstance(node, ast.ClassDef):
        if len(node.bases) > 1 or not all(isinstance(part, (ast.FunctionDef, ast.Pass)) for part in node.body):
            return "L5 class"
    if isinstance(node, ast.Assign) and len(node.targets) > 1:
        return "L6 targets"
    if isinstance(node, (ast.For, ast.While)) and node.orelse:
        return "L6 else"
    if isinstance(node, ast.Try) and node.finalbody:
        return "L6 finally"
    if isinstance(node, ast.Expr) and not isinstance(node.value, (ast.Call, ast.Constant)):
        return "L6 a call by itself"
    if isinstance(node, ast.ListComp) and (len(node.generators) > 1 or len(node.generators[0].ifs) > 1):
        return "L7 comprehension"
    if isinstance(node, ast.Constant) and isinstance(node.value, (float, bytes, complex)):
        return "L7 value"
    if isinstance(node, ast.Constant) and isinstance(node.value, str) and "%" in node.value:
        return "L27 text"
    if isinstance(node, ast.FormattedValue) and (not isinstance(node.value, ast.Name) or node.format_spec):
        return "L7 f-string"
    return name_fault(node, bound)


def name_fault(node, bound):
    if isinstance(node, ast.Name) and node.id not in bound | BUILTINS:
        return f"L8 name {node.id}"
    if isinstance(node, ast.Name) and isinstance(node.ctx, ast.Store) and node.id in BUILTINS:
        return f"L8 name {node.id}"
    if isinstance(node, ast.Call) and isinstance(node.func, ast.Attribute):
        if node.func.attr not in METHODS | UNDERSCORED | bound:
            return f"L25 method {node.func.attr}"
    if isinstance(node, ast.Compare) and any(isinstance(how, (ast.Is, ast.IsNot)) for how in node.ops):
        sides = [node.left] + node.comparators
        if not any(isinstance(side, ast.Constant) and side.value in (None, True, False) for side in sides):
            return "L20 is"
    for name in [getattr(node, "id", ""), getattr(node, "arg", ""), getattr(node, "name", "")]:
        if name and name.startswith("_") and name not in UNDERSCORED:
            return f"L12 name {name}"
    return ""


def faults_of(source):
    tree = ast.parse(source)
    bound = names_bound(tree)
    faults = file_faults(source) + top_faults(tree)
    for node in ast.walk(tree):
        fault = node_fault(node, bound)
        if fault:
            faults.append(fault)
    return faults


OUTSIDE = (
    "import os\n", "from os import path\n", "from .errors import NoText\n", "from kerb.errors import *\n",
    "def f(*a):\n    return a\n", "def f(a):\n    return a / 2\n", "def f(a):\n    assert a\n", "x = 1.5\n",
    "def f(a):\n    b = c = a\n    return b + c\n", "def f(a):\n    return {b for b in a}\n",
    "def f(a):\n    return (b for b in a)\n", "def f(a):\n    return print(a)\n", "def f(a):\n    return a.title()\n",
    "def f(a):\n    return a is f\n", "def _f(a):\n    return a\n", "def f(a):\n    # its type\n    return a\n",
    "class A:\n    x = 1\n", "def f(a):\n    return 1\n" + "# long\n" * 400, "def f():\n\treturn 1\n",
    "def f(a):\n    for b in a:\n        pass\n    else:\n        pass\n", "def f(len):\n    len = 1\n    return len\n",
    "def f(a):\n" + "    a = a + 1\n" * 40, "x = 'a%b'\n", "def f(a):\n    return f'{a + 1}'\n", "x = len([])\n",
)


class Language(unittest.TestCase):
    def test_each_file_keeps_to_the_rules(self):
        for path in sorted(PACKAGE.rglob("*.py")):
            self.assertEqual(faults_of(path.read_text(encoding="utf-8")), [], path.name)

    def test_the_walk_sees_what_lies_outside(self):
        for source in OUTSIDE:
            self.assertNotEqual(faults_of(source), [], source)

    def test_nothing_else_lies_in_the_package(self):
        for path in PACKAGE.iterdir():
            if path.name != "__pycache__":
                self.assertRegex(path.name, r"\A([a-z][a-z0-9_]*|__init__|__main__)\.py\Z")
                self.assertNotRegex(path.name, r"\A(test|conftest|site)")


if __name__ == "__main__":
    unittest.main()
