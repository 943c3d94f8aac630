"""The rules of LANGUAGE.md that can be seen in a file's own tree, asked of every file of the package."""

import ast
import builtins
import pathlib
import re
import unittest

PACKAGE = pathlib.Path(__file__).resolve().parent.parent / "keptnest"

STATEMENTS = (
    ast.Assign, ast.AugAssign, ast.If, ast.While, ast.For, ast.Return, ast.Break, ast.Continue, ast.Pass, ast.Raise,
    ast.Try, ast.Expr, ast.FunctionDef,
)
EXPRESSIONS = (
    ast.Constant, ast.Name, ast.List, ast.Tuple, ast.Dict, ast.Set, ast.BinOp, ast.UnaryOp, ast.BoolOp, ast.Compare,
    ast.IfExp, ast.Call, ast.Attribute, ast.Subscript, ast.Slice, ast.ListComp, ast.JoinedStr, ast.FormattedValue,
    ast.Lambda,
)
OWN_NAMES = (
    "len range enumerate zip min max sum abs sorted reversed int str bool list tuple dict set frozenset isinstance "
    "ord repr any all divmod Exception ValueError TypeError KeyError IndexError LookupError ZeroDivisionError "
    "ArithmeticError OverflowError RuntimeError NotImplementedError AttributeError StopIteration"
).split()
OWN_METHODS = (
    "append clear copy count endswith extend find get index insert isalnum isalpha isdigit islower isspace isupper "
    "items join keys ljust lower lstrip partition pop remove replace reverse rfind rjust rpartition rsplit rstrip "
    "setdefault split splitlines startswith strip update upper values zfill bit_length __init__"
).split()
NOWHERE = re.compile(
    r"\b(type|typing|typing_extensions|enum|Enum|IntEnum|StrEnum|Flag|IntFlag|Generic|Protocol|ABC|ABCMeta|"
    r"namedtuple|NamedTuple|TypedDict|TYPE_CHECKING|abstractmethod)\b|dataclass|overload|contextmanager"
)
TWO_UNDERSCORES = ("__init__", "__eq__", "__repr__", "__str__", "__len__")


def faults(text, methods):
    """Pairs (rule, row) of what stands against a rule in the text of a file."""
    found = text_faults(text)
    tree = ast.parse(text)
    for node in tree.body:
        found += top_faults(node)
    for node in ast.walk(tree):
        found += [(rule, getattr(node, "lineno", 0)) for rule in node_faults(node, methods)]
    found += branch_faults(tree, docstring_of(tree)) + place_faults(tree) + name_faults_of_file(tree)
    return found + class_faults(tree) + error_faults(tree) + walk_faults(tree) + value_faults(tree)


def text_faults(text):
    rows = text.split("\n")
    found = [("L10", place) for place, row in enumerate(rows, 1) if len(row) > 120]
    found += [("L14", place) for place, row in enumerate(rows, 1) if not all(" " <= sign <= "~" for sign in row)]
    found += [("L17", place) for place, row in enumerate(rows, 1) if NOWHERE.search(row)]
    return found + ([("L10", 400)] if len(rows) > 401 else [])


def docstring_of(tree):
    first = tree.body[0] if tree.body else None
    return first if isinstance(first, ast.Expr) and isinstance(first.value, ast.Constant) else None


def top_faults(node):
    if isinstance(node, ast.Assign):
        plain = (ast.Constant, ast.List, ast.Tuple, ast.Dict, ast.Name, ast.UnaryOp, ast.USub, ast.Load)
        right = all(isinstance(part, plain) for part in ast.walk(node.value)) and isinstance(node.targets[0], ast.Name)
        return [] if right else [("L3", node.lineno)]
    if isinstance(node, ast.ImportFrom):
        right = node.level == 0 and (node.module.startswith("keptnest.") or node.module == "__future__")
        return [] if right and node.names[0].name != "*" else [("L2", node.lineno)]
    doc = isinstance(node, ast.Expr) and isinstance(node.value, ast.Constant)
    return [] if doc or isinstance(node, (ast.FunctionDef, ast.ClassDef)) else [("L3", node.lineno)]


def branch_faults(tree, doc):
    found = []
    for top in tree.body:
        for node in ast.walk(top):
            if isinstance(node, ast.stmt) and node is not top and not isinstance(node, STATEMENTS):
                found.append(("L6", node.lineno))
            if isinstance(node, ast.Expr) and node is not doc and not isinstance(node.value, ast.Call):
                found.append(("L6", node.lineno))
            if isinstance(node, ast.expr) and not isinstance(node, EXPRESSIONS):
                found.append(("L7", node.lineno))
    return found


def node_faults(node, methods):
    if isinstance(node, ast.FunctionDef):
        return def_faults(node)
    if isinstance(node, ast.ClassDef):
        bodies = all(isinstance(part, (ast.FunctionDef, ast.Pass)) for part in node.body)
        return [] if bodies and len(node.bases) < 2 and not node.decorator_list and not node.keywords else ["L5"]
    if isinstance(node, ast.Name):
        return name_faults(node)
    if isinstance(node, ast.Attribute):
        return [] if node.attr in methods or node.attr in OWN_METHODS else ["L25"]
    if isinstance(node, ast.Constant):
        return constant_faults(node.value)
    return shape_faults(node)


def def_faults(node):
    words = node.args
    found = ["L4"] if words.vararg or words.kwarg or words.kwonlyargs or node.decorator_list else []
    found += ["L10"] if node.end_lineno - node.lineno + 1 > 40 else []
    found += ["L12"] if node.name.startswith("_") and node.name not in TWO_UNDERSCORES else []
    for word in words.args:
        found += ["L12"] if word.arg.startswith("_") else []
        found += ["L15"] if word.arg in dir(builtins) else []
    return found


def name_faults(node):
    found = ["L12"] if node.id.startswith("_") else []
    own = node.id in dir(builtins)
    if own and isinstance(node.ctx, ast.Store):
        found.append("L15")
    if own and node.id not in OWN_NAMES:
        found.append("L8")
    return found


def constant_faults(value):
    if isinstance(value, str):
        return ["L27"] if "%" in value else []
    return [] if value is None or isinstance(value, int) else ["L7"]


def shape_faults(node):
    if isinstance(node, ast.BinOp) and isinstance(node.op, (ast.Div, ast.MatMult)):
        return ["L7"]
    if isinstance(node, ast.BinOp) and isinstance(node.op, ast.Pow):
        return [] if isinstance(node.right, ast.Constant) else ["L27"]
    if isinstance(node, ast.ListComp):
        return [] if len(node.generators) == 1 and len(node.generators[0].ifs) < 2 else ["L7"]
    if isinstance(node, ast.FormattedValue):
        return [] if isinstance(node.value, ast.Name) and not node.format_spec else ["L7"]
    if isinstance(node, (ast.For, ast.While)):
        return ["L6"] if node.orelse else []
    if isinstance(node, ast.Try):
        return ["L6"] if node.finalbody or not all(handler.type for handler in node.handlers) else []
    if isinstance(node, ast.Assign):
        return ["L6"] if len(node.targets) > 1 else []
    if isinstance(node, ast.Compare) and any(isinstance(sign, (ast.Is, ast.IsNot)) for sign in node.ops):
        beside = getattr(node.comparators[-1], "value", 0)
        return [] if beside is None or isinstance(beside, bool) else ["L20"]
    return []


WALKED = ("zip", "enumerate", "reversed", "range", "items", "keys", "values")
WALKERS = ("list", "tuple", "dict", "sorted", "sum", "any", "all", "enumerate", "zip")
KEYWORDS = {"sorted": ("key", "reverse"), "min": ("key", "default"), "max": ("key", "default"), "sum": ("start",),
            "enumerate": ("start",), "zip": ("strict",)}


def called(node):
    """The name that a call calls, of a function or of a method."""
    if not isinstance(node, ast.Call):
        return None
    return getattr(node.func, "id", getattr(node.func, "attr", None))


def parents_of(tree):
    return {part: node for node in ast.walk(tree) for part in ast.iter_child_nodes(node)}


def place_faults(tree):
    """What stands where it may not: L15, L22, L23, L24."""
    parents, found = parents_of(tree), []
    tops = {node.targets[0].id for node in tree.body
            if isinstance(node, ast.Assign) and isinstance(node.value, (ast.List, ast.Dict))}
    for node, parent in parents.items():
        line = getattr(node, "lineno", 0)
        if called(node) in WALKED and not walked_at_once(node, parent):
            found.append(("L23", line))
        if called(node) in ("set", "frozenset") and not isinstance(parent, (ast.Compare, ast.BinOp)):
            found += [] if called(parent) in ("sorted", "len") and not parent.keywords else [("L24", line)]
        if isinstance(node, ast.Call) and isinstance(node.func, ast.Name) and node.func.id in OWN_NAMES:
            wrong = [word.arg for word in node.keywords if word.arg not in KEYWORDS.get(node.func.id, ())]
            found += [("L22", line)] if wrong else []
        if isinstance(node, ast.Name) and node.id in OWN_NAMES and called(parent) != node.id:
            found += [] if kept_in_place(node, parent) else [("L22", line)]
        if isinstance(node, ast.Name) and node.id in tops and isinstance(node.ctx, ast.Load):
            found += [] if only_read(node, parent) else [("L15", line)]
    return found


def walked_at_once(node, parent):
    if isinstance(parent, (ast.For, ast.comprehension)):
        return parent.iter is node
    if called(parent) in ("min", "max"):
        return len(parent.args) == 1
    if called(parent) == "join":
        return isinstance(parent.func.value, ast.Constant)
    return called(parent) in WALKERS and parent.args[:1] == [node] or called(parent) == "zip"


def kept_in_place(node, parent):
    """Error classes as bases and behind except, names of sorts in isinstance, what stands as a key."""
    if node.id.endswith(("Error", "Exception", "Iteration")) or isinstance(parent, ast.keyword):
        return True
    return called(parent) == "isinstance" or isinstance(parent, ast.Tuple)


def only_read(node, parent):
    if isinstance(parent, (ast.Subscript, ast.Attribute)):
        return parent.value is node and (isinstance(parent, ast.Subscript) or parent.attr in ("get", "items", "index"))
    if isinstance(parent, (ast.For, ast.comprehension)):
        return parent.iter is node
    return isinstance(parent, ast.Compare) or called(parent) in ("len", "list", "dict", "sorted", "tuple")


def name_faults_of_file(tree):
    """Parameters and locals called like a class or an import of their file: L15."""
    taken = {alias.name for node in tree.body if isinstance(node, ast.ImportFrom) for alias in node.names}
    taken |= {node.name for node in tree.body if isinstance(node, ast.ClassDef)}
    nodes = list(ast.walk(tree))
    found = [("L15", node.lineno) for node in nodes if isinstance(node, ast.arg) and node.arg in taken]
    return found + [("L15", node.lineno) for node in nodes
                    if isinstance(node, ast.Name) and isinstance(node.ctx, ast.Store) and node.id in taken]


def class_names(tree):
    """Classes that the file defines or draws in: names of the package's own that begin with a capital."""
    names = {node.name for node in ast.walk(tree) if isinstance(node, ast.ClassDef)}
    drawn = [alias.name for node in tree.body if isinstance(node, ast.ImportFrom) for alias in node.names]
    return names | {name for name in drawn if name[:1].isupper() and not name.isupper()}


def class_faults(tree):
    """Classes kept, handed on or shown (L18), annotations (L21), sets written out (L13)."""
    parents, own, found = parents_of(tree), class_names(tree), []
    for node, parent in parents.items():
        line = getattr(node, "lineno", 0)
        if isinstance(node, ast.Name) and node.id in own and isinstance(node.ctx, ast.Load):
            base = isinstance(parent, ast.Attribute) and parent.attr == "__init__"
            stands = isinstance(parent, (ast.ClassDef, ast.ExceptHandler, ast.Raise)) or base
            called_here = isinstance(parent, ast.Call) and (parent.func is node or called(parent) == "isinstance")
            found += [] if stands or called_here else [("L18", line)]
        if isinstance(node, ast.AnnAssign) or getattr(node, "annotation", None) or getattr(node, "returns", None):
            found.append(("L21", line))
        if isinstance(node, ast.Set):
            found.append(("L13", line))
    return found


def error_faults(tree):
    """Errors that are taken or raised otherwise than L19 tells; of Python's own the package takes none."""
    own, found = class_names(tree), []
    for node in ast.walk(tree):
        if isinstance(node, ast.ExceptHandler) and not (isinstance(node.type, ast.Name) and node.type.id in own):
            found.append(("L19", node.lineno))
        if isinstance(node, ast.Raise) and not isinstance(node.exc, ast.Call):
            found.append(("L19", node.lineno))
    return found


CHANGES = ("append", "clear", "extend", "insert", "pop", "remove", "reverse", "setdefault", "update")


def walk_faults(tree):
    """What a loop walks and changes: L23."""
    found = []
    for node in ast.walk(tree):
        if isinstance(node, ast.For):
            walked = {ast.unparse(part) for part in ast.walk(node.iter) if isinstance(part, (ast.Name, ast.Attribute))}
            for part in [part for row in node.body for part in ast.walk(row)]:
                changed = called(part) in CHANGES and isinstance(part.func, ast.Attribute)
                stored = isinstance(part, ast.Subscript) and isinstance(part.ctx, ast.Store)
                thing = part.func.value if changed else part.value if stored else None
                if thing is not None and ast.unparse(thing) in walked:
                    found.append(("L23", part.lineno))
    return found


OTHERS = {name for thing in ("", 0, [], {}, set(), b"", ()) for name in dir(thing)}
MAY_BE_VALUES = "count index title find get join lower upper split strip copy add".split()
MAY_BE_METHODS = ["add", "discard", "__init__"] + OWN_METHODS


def value_faults(tree):
    """Names of methods and of objects' values that Python's own values have: L26."""
    found = []
    for node in ast.walk(tree):
        if isinstance(node, ast.ClassDef):
            found += [("L26", part.lineno) for part in node.body if isinstance(part, ast.FunctionDef)
                      and part.name in OTHERS and part.name not in MAY_BE_METHODS]
        if isinstance(node, ast.Attribute) and isinstance(node.ctx, ast.Store):
            found += [("L26", node.lineno)] if node.attr in OTHERS and node.attr not in MAY_BE_VALUES else []
    return found


def own_attributes(texts):
    """Methods and objects' values that the package itself has."""
    found = []
    for text in texts:
        for node in ast.walk(ast.parse(text)):
            if isinstance(node, ast.ClassDef):
                found += [part.name for part in node.body if isinstance(part, ast.FunctionDef)]
            if isinstance(node, ast.Attribute) and isinstance(node.ctx, ast.Store):
                found.append(node.attr)
    return found


class TestLanguage(unittest.TestCase):
    def setUp(self):
        self.files = sorted(path for path in PACKAGE.rglob("*") if "__pycache__" not in path.parts)
        self.texts = {path: path.read_text("ascii") for path in self.files if path.is_file()}

    def test_files(self):
        self.assertTrue(self.texts)
        for path in self.files:
            wanted = r"[a-z][a-z0-9_]*\.py|__init__\.py|__main__\.py" if path.is_file() else r"[a-z][a-z0-9_]*"
            self.assertRegex(path.name, "^(" + wanted + ")$")
            self.assertNotIn(path.stem, dir(builtins))
            if path.is_dir():
                self.assertTrue((path / "__init__.py").is_file(), path)

    def test_rules(self):
        methods = own_attributes(self.texts.values())
        for path, text in self.texts.items():
            self.assertEqual(faults(text, methods), [], path)

    def test_a_method_in_one_class_is_no_value_in_another(self):
        trees = [ast.parse(text) for text in self.texts.values()]
        nodes = [node for tree in trees for node in ast.walk(tree)]
        defs = [part.name for node in nodes if isinstance(node, ast.ClassDef) for part in node.body
                if isinstance(part, ast.FunctionDef)]
        kept = [node.attr for node in nodes if isinstance(node, ast.Attribute) and isinstance(node.ctx, ast.Store)]
        self.assertEqual(set(defs) & set(kept), set())

    def test_no_two_files_draw_from_one_another(self):
        drawn = {self.module(path): self.drawn(text) for path, text in self.texts.items()}
        for start in drawn:
            seen, waiting = set(), list(drawn[start])
            while waiting:
                module = waiting.pop()
                if module not in seen:
                    seen.add(module)
                    waiting += drawn[module]
            self.assertNotIn(start, seen)

    def test_names_are_drawn_from_the_file_that_defines_them(self):
        defined = {}
        for path, text in self.texts.items():
            tops = ast.parse(text).body
            names = [node.name for node in tops if isinstance(node, (ast.FunctionDef, ast.ClassDef))]
            names += [node.targets[0].id for node in tops if isinstance(node, ast.Assign)]
            defined[self.module(path)] = names
        for path, text in self.texts.items():
            names = defined[self.module(path)]
            self.assertEqual(len(names), len(set(names)), path)
            for node in ast.parse(text).body:
                if isinstance(node, ast.ImportFrom) and node.module != "__future__":
                    for alias in node.names:
                        self.assertIn(alias.name, defined[node.module], path)
                        self.assertNotIn(alias.name, names, path)
                        self.assertIsNone(alias.asname, path)

    def module(self, path):
        names = path.relative_to(PACKAGE.parent).with_suffix("").parts
        return ".".join(names[:-1] if names[-1] == "__init__" else names)

    def drawn(self, text):
        found = []
        for node in ast.parse(text).body:
            if isinstance(node, ast.ImportFrom) and node.module != "__future__":
                parts = node.module.split(".")
                found += [".".join(parts[:end]) for end in range(1, len(parts) + 1)]
        return found

    def test_what_is_outside_is_seen(self):
        outside = {
            "import os": "L3", "from os import path": "L2", "x = len([])": "L3", "x = {1: 0.5}": "L7",
            "def f():\n    \"\"\"Words.\"\"\"": "L6", "def f(*a):\n    return 1": "L4",
            "def f(id):\n    return 1": "L15",
            "def f(a):\n    return type(a)": "L17", "def f(a):\n    return hash(a)": "L8",
            "def f(a):\n    return a / 2": "L7", "def f(a):\n    return {b for b in a}": "L7",
            "def f(a):\n    a.sort()": "L25", "def f(a):\n    _b = a": "L12", "def f(a):\n    return a is a": "L20",
            "def f(a):\n    assert a": "L6", "def f(a):\n    return 2 ** a": "L27",
            "def f(a):\n    b = zip(a, a)": "L23", "def f(a):\n    a.extend(zip(a, a))": "L23",
            "def f(a):\n    return a.items()": "L23", "def f(a):\n    b = set(a)": "L24",
            "def f(a):\n    return sorted(a, None)\ndef g(a):\n    return a(len)": "L22",
            "def f(a):\n    return max(a, start=1)": "L22", "d = {1: 2}\ndef f(a):\n    return a(d)": "L15",
            "d = [1]\ndef f(a):\n    d.append(a)": "L15", "d = {1: 2}\ndef f(a):\n    return d": "L15",
            "from keptnest.errors import NoKind\ndef f(a):\n    NoKind = a": "L15",
            "from keptnest.errors import NoKind\ndef f(NoKind):\n    return 1": "L15",
            "class A:\n    pass\ndef f(a):\n    return [A]": "L18",
            "class A:\n    pass\ndef f(a):\n    return a(A)": "L18",
            "def f(a: int):\n    return a": "L21", "def f(a) -> int:\n    return a": "L21",
            "def f(a):\n    b: int = a": "L21", "def f(a):\n    return a in {1, 2, 3}": "L13",
            "def f(a):\n    try:\n        a()\n    except Exception:\n        pass": "L19",
            "def f(a):\n    try:\n        a()\n    except TypeError:\n        pass": "L19",
            "class A(ValueError):\n    pass\ndef f(a):\n    raise A": "L19",
            "def f(a):\n    for b in a:\n        a.append(b)": "L23",
            "def f(a):\n    for b, c in enumerate(a):\n        a[b] = c": "L23",
            "def f(self):\n    self.items = 1": "L26", "class A:\n    def encode(self):\n        return 1": "L26",
            "class A:\n    x = 1": "L5", "def f():\n" + "    pass\n" * 40: "L10", "x = '%'": "L27",
        }
        for text, rule in outside.items():
            rules = [found for found, row in faults(text, [])]
            self.assertIn(rule, rules, text)
