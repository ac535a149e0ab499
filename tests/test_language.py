"""Whether the package keeps to its part of Python, as far as a walk through its files can see.

The rules' numbers are those of LANGUAGE.md; what is not looked at here is still asked for.
"""

import ast
import builtins
import re
import unittest
from pathlib import Path

PACKAGE = Path(__file__).resolve().parent.parent / "kerb"

BUILTINS = set("""
    len range enumerate zip min max sum abs sorted reversed int str bool list tuple dict set frozenset isinstance ord
    repr any all divmod Exception ValueError TypeError KeyError IndexError LookupError ZeroDivisionError
    ArithmeticError OverflowError RuntimeError NotImplementedError AttributeError StopIteration
""".split())
METHODS = set("""
    append clear copy count endswith extend find get index insert isalnum isalpha isdigit islower isspace isupper
    items join keys ljust lower lstrip partition pop remove replace reverse rfind rjust rpartition rsplit rstrip
    setdefault split splitlines startswith strip update upper values zfill bit_length
""".split())
UNDERSCORED = {"__init__", "__eq__", "__repr__", "__str__", "__len__"}
BANNED_WORDS = re.compile(
    r"\b(type|typing|typing_extensions|enum|Enum|IntEnum|StrEnum|Flag|IntFlag|Generic|Protocol|ABC|ABCMeta"
    r"|namedtuple|NamedTuple|TypedDict|TYPE_CHECKING|abstractmethod)\b|dataclass|overload|contextmanager")
NODES = tuple(getattr(ast, name) for name in """
    Module FunctionDef ClassDef Lambda arguments arg ImportFrom alias Assign AugAssign If While For Return Break
    Continue Pass Raise Try ExceptHandler Expr Name Load Store Constant List Tuple Dict Set ListComp comprehension
    BinOp UnaryOp BoolOp Compare IfExp Call keyword Attribute Subscript Slice JoinedStr FormattedValue
    operator unaryop boolop cmpop
""".split())
FLAT = (ast.Constant, ast.UnaryOp, ast.List, ast.Tuple, ast.Dict)
CHANGES = set("append clear extend insert pop remove reverse setdefault update".split())
LAZY = {"zip", "enumerate", "reversed", "range"}
LAZY_METHODS = {"items", "keys", "values"}
WALKERS = set("list tuple dict sorted sum any all enumerate zip".split())
READERS = WALKERS | {"len", "min", "max", "reversed", "set"}
KEYWORDS = {"sorted": {"key", "reverse"}, "min": {"key", "default"}, "max": {"key", "default"}, "sum": {"start"},
            "enumerate": {"start"}, "zip": {"strict"}}
KEYS = set("len int str abs sum min max tuple".split())
CHECKED = set("int str bool list tuple dict".split())
TAKEN = {"KeyError", "ZeroDivisionError", "StopIteration"}
UNUSED = set("register mro elements open input version_info with_traceback add_note".split())
UNUSED_NAMES = UNUSED | set("""
    attrgetter breakpoint builtins compile copyright credits delattr dir eval exec exit gc getattr globals hasattr help
    id importlib license locals methodcaller os quit setattr super type vars sys __name__ chr
""".split())
OF_PYTHON = {name for kind in (str, int, list, dict, set, frozenset, tuple, bytes, bytearray) for name in dir(kind)}
VALUES = set("count index title find get join lower upper split strip copy add".split())


def file_faults(source):
    rows = source.split("\n")
    faults = []
    if len(rows) > 401 or any(len(row) > 120 for row in rows):
        faults.append("L10 size")
    if any(sign != "\n" and not " " <= sign <= "~" for sign in source):
        faults.append("L14 signs")
    if BANNED_WORDS.search(source):
        faults.append("L17 words")
    if re.search(r"\\[^nt\\'\"]", source):
        faults.append("L27 escape")
    if any(row.count("lambda") > 1 for row in rows):
        faults.append("L13 lambdas")
    return faults


def top_faults(tree):
    faults = []
    for place, node in enumerate(tree.body):
        docstring = place == 0 and isinstance(node, ast.Expr) and isinstance(node.value, ast.Constant)
        plain = isinstance(node, ast.Assign) and isinstance(node.value, FLAT)
        if not docstring and not plain and not isinstance(node, (ast.ImportFrom, ast.FunctionDef, ast.ClassDef)):
            faults.append(f"L3 line {node.lineno}")
    return faults


def names_bound(tree):
    bound = set()
    for node in ast.walk(tree):
        if isinstance(node, (ast.FunctionDef, ast.ClassDef)):
            bound.add(node.name)
        elif isinstance(node, ast.arg):
            bound.add(node.arg)
        elif isinstance(node, ast.alias):
            bound.add(node.asname or node.name)
        elif isinstance(node, ast.Name) and isinstance(node.ctx, ast.Store):
            bound.add(node.id)
        elif isinstance(node, ast.ExceptHandler) and node.name:
            bound.add(node.name)
    return bound


def node_fault(node, bound):
    if not isinstance(node, NODES) or isinstance(node, (ast.Div, ast.MatMult)):
        return "L6 or L7 form"
    if isinstance(node, ast.ImportFrom) and (node.level or not re.fullmatch(r"kerb\.[a-z_]+", node.module)):
        return "L2 import"
    if isinstance(node, ast.alias) and node.name == "*":
        return "L2 import"
    if isinstance(node, (ast.FunctionDef, ast.ClassDef)) and node.decorator_list:
        return "L4 or L5 decorator"
    if isinstance(node, ast.FunctionDef) and node.end_lineno - node.lineno >= 40:
        return "L10 size"
    if isinstance(node, ast.arguments) and (node.vararg or node.kwarg or node.kwonlyargs or node.posonlyargs):
        return "L4 parameters"
    if isinstance(node, ast.ClassDef):
        if len(node.bases) > 1 or not all(isinstance(part, (ast.FunctionDef, ast.Pass)) for part in node.body):
            return "L5 class"
    if isinstance(node, ast.Assign) and len(node.targets) > 1:
        return "L6 targets"
    if isinstance(node, (ast.For, ast.While)) and node.orelse:
        return "L6 else"
    if isinstance(node, ast.Try) and node.finalbody:
        return "L6 finally"
    if isinstance(node, ast.Expr) and not isinstance(node.value, (ast.Call, ast.Constant)):
        return "L6 a call by itself"
    if isinstance(node, ast.ListComp) and (len(node.generators) > 1 or len(node.generators[0].ifs) > 1):
        return "L7 comprehension"
    if isinstance(node, ast.Constant) and isinstance(node.value, (float, bytes, complex)):
        return "L7 value"
    if isinstance(node, ast.Constant) and isinstance(node.value, str) and "%" in node.value:
        return "L27 text"
    if isinstance(node, ast.FormattedValue) and (not isinstance(node.value, ast.Name) or node.format_spec):
        return "L7 f-string"
    return name_fault(node, bound)


def name_fault(node, bound):
    if isinstance(node, ast.Name) and node.id not in bound | BUILTINS:
        return f"L8 name {node.id}"
    if isinstance(node, ast.Name) and isinstance(node.ctx, ast.Store) and node.id in BUILTINS:
        return f"L8 name {node.id}"
    if isinstance(node, ast.Call) and isinstance(node.func, ast.Attribute):
        if node.func.attr not in METHODS | UNDERSCORED | bound:
            return f"L25 method {node.func.attr}"
    if isinstance(node, ast.Compare) and any(isinstance(how, (ast.Is, ast.IsNot)) for how in node.ops):
        sides = [node.left] + node.comparators
        if not any(isinstance(side, ast.Constant) and side.value in (None, True, False) for side in sides):
            return "L20 is"
    for name in [getattr(node, "id", ""), getattr(node, "arg", ""), getattr(node, "name", "")]:
        if name and name.startswith("_") and name not in UNDERSCORED:
            return f"L12 name {name}"
    return ""


def is_call_of(node, names):
    return isinstance(node, ast.Call) and isinstance(node.func, ast.Name) and node.func.id in names


def is_method_call(node, names):
    return isinstance(node, ast.Call) and isinstance(node.func, ast.Attribute) and node.func.attr in names


def is_first_in(node, parent, names):
    return is_call_of(parent, names) and parent.args[:1] == [node]


def with_parents(tree):
    return [(node, parent) for parent in ast.walk(tree) for node in ast.iter_child_nodes(parent)]


def classes_of(tree):
    own = {node.name for node in ast.walk(tree) if isinstance(node, ast.ClassDef)}
    return own | {name for name in imports_of(tree) if name[0].isupper() and not name.isupper()}


def imports_of(tree):
    return {alias.name: node.module for node in tree.body if isinstance(node, ast.ImportFrom) for alias in node.names}


# L15, L21: what is bound, and how often.
def binding_faults(tree):
    top = [node.name for node in tree.body if isinstance(node, (ast.FunctionDef, ast.ClassDef))] + list(imports_of(tree))
    top += [target.id for node in tree.body if isinstance(node, ast.Assign) for target in node.targets]
    faults = [f"L15 twice {name}" for name in set(top) if top.count(name) > 1]
    inner = {node.arg for node in ast.walk(tree) if isinstance(node, ast.arg)}
    inner |= {node.id for part in tree.body if isinstance(part, (ast.FunctionDef, ast.ClassDef))
              for node in ast.walk(part) if isinstance(node, ast.Name) and isinstance(node.ctx, ast.Store)}
    outer = set(imports_of(tree)) | classes_of(tree) | set(dir(builtins))
    faults += [f"L15 local {name}" for name in inner & outer]
    for node, parent in with_parents(tree):
        if isinstance(node, ast.ClassDef) and parent is not tree:
            faults.append("L15 class")
        if isinstance(node, ast.arg) and node.annotation or isinstance(node, ast.FunctionDef) and node.returns:
            faults.append("L21 annotation")
    return faults


# L15: a list or dict of a file's top is flat and only read.
def kept_faults(tree):
    faults = []
    kept = {}
    for node in tree.body:
        if isinstance(node, ast.Assign) and isinstance(node.value, (ast.List, ast.Dict)):
            kept[node.targets[0].id] = node
            if any(isinstance(part, (ast.List, ast.Dict)) for part in list(ast.walk(node.value))[1:]):
                faults.append("L15 list within a list")
    for node, parent in with_parents(tree):
        if isinstance(node, ast.Name) and node.id in kept and isinstance(node.ctx, ast.Load):
            read = isinstance(parent, ast.Subscript) and parent.value is node and isinstance(parent.ctx, ast.Load)
            read = read or isinstance(parent, ast.Compare) or is_first_in(node, parent, READERS)
            read = read or isinstance(parent, (ast.For, ast.comprehension)) and parent.iter is node
            read = read or isinstance(parent, ast.Attribute) and parent.attr in LAZY_METHODS | {"get", "index", "count"}
            if not read:
                faults.append(f"L15 kept {node.id}")
    return faults


# L18, L22: classes and Python's own names where they may stand.
def use_fault(node, parent, classes):
    if not isinstance(node, ast.Name) or not isinstance(node.ctx, ast.Load):
        return ""
    called = isinstance(parent, ast.Call) and parent.func is node
    if node.id in classes and not called and not isinstance(parent, (ast.ClassDef, ast.ExceptHandler, ast.Raise)):
        if not is_call_of(parent, {"isinstance"}):
            return f"L18 class {node.id}"
    if node.id in BUILTINS and not called and not isinstance(parent, (ast.ClassDef, ast.ExceptHandler)):
        as_key = isinstance(parent, ast.keyword) and parent.arg == "key" and node.id in KEYS
        checked = is_call_of(parent, {"isinstance"}) or isinstance(parent, ast.Tuple)
        if not as_key and not (checked and node.id in CHECKED):
            return f"L22 kept {node.id}"
    return ""


def keyword_fault(node, classes):
    if not isinstance(node, ast.Call):
        return ""
    given = {keyword.arg for keyword in node.keywords}
    if isinstance(node.func, ast.Name) and node.func.id in BUILTINS and given - KEYWORDS.get(node.func.id, set()):
        return "L22 keyword"
    if given and (is_method_call(node, METHODS) or is_call_of(node, classes)):
        return "L22 keyword"
    return ""


# L23, L24: what is walked on the spot.
def walk_fault(node, parent):
    if is_call_of(node, LAZY) or is_method_call(node, LAZY_METHODS):
        walked = isinstance(parent, (ast.For, ast.comprehension)) and parent.iter is node
        walked = walked or is_first_in(node, parent, WALKERS)
        walked = walked or is_call_of(parent, {"min", "max"}) and parent.args == [node]
        walked = walked or is_method_call(parent, {"join"}) and isinstance(parent.func.value, ast.Constant)
        return "" if walked else "L23 kept"
    if is_call_of(node, {"set", "frozenset"}) or isinstance(node, ast.Set):
        at_once = isinstance(parent, (ast.Compare, ast.BinOp))
        at_once = at_once or is_call_of(parent, {"sorted", "len"}) and parent.args == [node] and not parent.keywords
        return "" if at_once else "L24 set"
    return ""


# L23: what a loop walks.
def walked_of(node):
    if is_call_of(node, LAZY):
        return [ast.dump(argument) for argument in node.args]
    if is_method_call(node, LAZY_METHODS):
        return [ast.dump(node.func.value)]
    return [ast.dump(node)]


def loop_faults(loop):
    walked = walked_of(loop.iter)
    faults = []
    for node in [each for part in loop.body for each in ast.walk(part)]:
        if is_method_call(node, CHANGES) and ast.dump(node.func.value) in walked:
            faults.append("L23 changed")
        if isinstance(node, ast.Subscript) and isinstance(node.ctx, ast.Store) and ast.dump(node.value) in walked:
            faults.append("L23 changed")
    return faults


# L13, L17, L19, L27: forms that are seen by themselves.
def form_fault(node, classes):
    if isinstance(node, ast.Set) and len(node.elts) > 2:
        return "L13 set"
    if isinstance(node, ast.Name) and node.id in UNUSED_NAMES or getattr(node, "attr", "") in UNUSED:
        return "L17 name"
    if isinstance(node, (ast.FunctionDef, ast.ClassDef)) and node.name in UNUSED_NAMES:
        return "L17 name"
    if isinstance(node, ast.Raise) and not is_call_of(node.exc, classes | BUILTINS):
        return "L19 raise"
    if isinstance(node, ast.ExceptHandler):
        if not isinstance(node.type, ast.Name) or node.type.id not in classes | TAKEN:
            return "L19 except"
    if isinstance(node, ast.BinOp) and isinstance(node.op, ast.Pow):
        if not isinstance(node.right, ast.Constant) or not 0 <= node.right.value <= 64:
            return "L27 power"
    return ""


# L18, L26, L28: methods and values of objects, over the whole package.
def member_faults(trees):
    classes = [node for tree in trees for node in ast.walk(tree) if isinstance(node, ast.ClassDef)]
    methods = [part.name for node in classes for part in node.body if isinstance(part, ast.FunctionDef)]
    values = {part.attr for node in classes for part in ast.walk(node)
              if isinstance(part, ast.Attribute) and isinstance(part.ctx, ast.Store)}
    faults = [f"L18 method and value {name}" for name in values & set(methods)]
    for node in classes:
        own = [part.name for part in node.body if isinstance(part, ast.FunctionDef)]
        faults += [f"L18 method twice {name}" for name in set(own) if own.count(name) > 1]
    faults += [f"L26 method {name}" for name in methods if name in OF_PYTHON - METHODS - {"add", "discard", "__init__"}]
    faults += [f"L26 value {name}" for name in values if name in OF_PYTHON - VALUES or name in ("args", "format")]
    for tree in trees:
        for node in ast.walk(tree):
            if isinstance(node, ast.FunctionDef) and node.name == "__init__":
                faults += ["L28 gives back" for part in ast.walk(node) if isinstance(part, ast.Return) and part.value]
    return faults


# L16: from the very file that defines the name, and never round to itself.
def import_faults(trees):
    faults = []
    drawn = {}
    for name, tree in trees.items():
        drawn[name] = {module for module in imports_of(tree).values()}
        for imported, module in imports_of(tree).items():
            top = trees[module].body
            defined = {node.name for node in top if isinstance(node, (ast.FunctionDef, ast.ClassDef))}
            defined |= {target.id for node in top if isinstance(node, ast.Assign) for target in node.targets}
            if imported not in defined:
                faults.append(f"L16 {imported} of {module}")
    left = dict(drawn)
    while left:
        free = [name for name in left if not drawn[name] & set(left)]
        if not free:
            return faults + [f"L16 round {sorted(left)}"]
        for name in free:
            left.pop(name)
    return faults


def faults_of(source):
    tree = ast.parse(source)
    bound = names_bound(tree)
    classes = classes_of(tree)
    faults = file_faults(source) + top_faults(tree) + binding_faults(tree) + kept_faults(tree)
    for node in ast.walk(tree):
        faults += [node_fault(node, bound), form_fault(node, classes), keyword_fault(node, classes)]
        if isinstance(node, ast.For):
            faults += loop_faults(node)
    for node, parent in with_parents(tree):
        faults += [use_fault(node, parent, classes), walk_fault(node, parent)]
    return [fault for fault in faults if fault] + member_faults([tree])


OUTSIDE = (
    "import os\n", "from os import path\n", "from .errors import NoText\n", "from kerb.errors import *\n",
    "def f(*a):\n    return a\n", "def f(a):\n    return a / 2\n", "def f(a):\n    assert a\n", "x = 1.5\n",
    "def f(a):\n    b = c = a\n    return b + c\n", "def f(a):\n    return {b for b in a}\n",
    "def f(a):\n    return (b for b in a)\n", "def f(a):\n    return print(a)\n", "def f(a):\n    return a.title()\n",
    "def f(a):\n    return a is f\n", "def _f(a):\n    return a\n", "def f(a):\n    # its type\n    return a\n",
    "class A:\n    x = 1\n", "def f(a):\n    return 1\n" + "# long\n" * 400, "def f():\n\treturn 1\n",
    "def f(a):\n    for b in a:\n        pass\n    else:\n        pass\n", "def f(len):\n    len = 1\n    return len\n",
    "def f(a):\n" + "    a = a + 1\n" * 40, "x = 'a%b'\n", "def f(a):\n    return f'{a + 1}'\n", "x = len([])\n",
    "def f(a):\n    return 1\n\n\ndef f(b):\n    return 2\n", "def f(hash):\n    return hash\n",
    "from kerb.errors import NoText\n\n\ndef f(NoText):\n    return 1\n",
    "def f(a: int):\n    return a\n", "def f(a):\n    class A:\n        pass\n    return 1\n",
    "xs = [1]\n\n\ndef f(a):\n    xs.append(a)\n", "xs = [1]\n\n\ndef f(a):\n    return xs\n",
    "xs = {}\n\n\ndef f(a):\n    xs[a] = 1\n", "xs = [[1]]\n",
    "class A:\n    pass\n\n\ndef f(a):\n    return [A]\n", "def f(a):\n    return [len]\n",
    "def f(a):\n    return a.split(sep=a)\n", "def f(a):\n    return int(a, base=2)\n",
    "def f(a):\n    b = zip(a, a)\n    return list(b)\n", "def f(a):\n    return a.items()\n",
    "def f(a):\n    return set(a)\n", "def f(a):\n    for b in set(a):\n        return b\n",
    "def f(a):\n    for b in a:\n        a.append(b)\n", "def f(a):\n    for b in a.items():\n        a[b] = 1\n",
    "def f(a):\n    for b, c in enumerate(a):\n        a[b] = c\n", "def f(a):\n    return len({1, 2, 3}) + a\n",
    "def f(a):\n    return a.open\n", "def f(a):\n    raise a\n",
    "def f(a):\n    try:\n        return int(a)\n    except Exception:\n        return 1\n",
    "def f(a):\n    return 2 ** a\n", "x = '\\x41'\n",
    "class A:\n    def a(self):\n        self.b = 1\n\n    def b(self):\n        return 1\n",
    "class A:\n    def sort(self):\n        return 1\n", "class A:\n    def a(self):\n        self.items = 1\n",
    "class A:\n    def __init__(self):\n        return None\n",
    "class A:\n    def a(self):\n        return 1\n\n    def a(self):\n        return 2\n",
    "def f(a):\n    return sorted(a, key=lambda b: b) + sorted(a, key=lambda b: b)\n",
)


class Language(unittest.TestCase):
    def test_each_file_keeps_to_the_rules(self):
        for path in sorted(PACKAGE.rglob("*.py")):
            self.assertEqual(faults_of(path.read_text(encoding="utf-8")), [], path.name)

    def test_the_files_together_keep_to_the_rules(self):
        trees = {"kerb." + path.stem: ast.parse(path.read_text(encoding="utf-8")) for path in PACKAGE.rglob("*.py")}
        self.assertEqual(member_faults(trees.values()) + import_faults(trees), [])

    def test_files_that_draw_from_one_another(self):
        one = ast.parse("from kerb.b import g\n\n\ndef f(a):\n    return g(a)\n")
        other = ast.parse("from kerb.a import f\n\n\ndef g(a):\n    return f(a)\n")
        self.assertNotEqual(import_faults({"kerb.a": one, "kerb.b": other}), [])
        third = ast.parse("from kerb.a import g\n")
        fourth = ast.parse("def g(a):\n    return a\n")
        self.assertNotEqual(import_faults({"kerb.a": one, "kerb.b": fourth, "kerb.c": third}), [])
        self.assertEqual(import_faults({"kerb.a": one, "kerb.b": fourth}), [])

    def test_the_walk_sees_what_lies_outside(self):
        for source in OUTSIDE:
            self.assertNotEqual(faults_of(source), [], source)

    def test_nothing_else_lies_in_the_package(self):
        for path in PACKAGE.iterdir():
            if path.name != "__pycache__":
                self.assertRegex(path.name, r"\A([a-z][a-z0-9_]*|__init__|__main__)\.py\Z")
                self.assertNotRegex(path.name, r"\A(test|conftest|site)")


if __name__ == "__main__":
    unittest.main()
