"""The form of the package's files, rule by rule (L1 to L28).

The check is narrower than the rules: what the package doesn't use (sets, f-strings, errors, functions within
functions, annotations, methods with two underscores but __init__) is a fault here, and so needs no rule of its own.
"""

import ast
import builtins
import pathlib
import re
import unittest

PACKAGE = "lakesandpumps"
FOLDER = pathlib.Path(__file__).resolve().parent.parent / PACKAGE

STATEMENTS = (ast.Assign, ast.AugAssign, ast.If, ast.While, ast.For, ast.Return, ast.Break, ast.Continue, ast.Pass,
              ast.Expr)
EXPRESSIONS = (ast.Constant, ast.Name, ast.List, ast.Tuple, ast.Dict, ast.BinOp, ast.UnaryOp, ast.BoolOp, ast.Compare,
               ast.IfExp, ast.Call, ast.Attribute, ast.Subscript, ast.Slice, ast.ListComp)
OPERATORS = (ast.Add, ast.Sub, ast.Mult, ast.FloorDiv, ast.Mod, ast.Pow, ast.BitAnd, ast.BitOr, ast.BitXor, ast.LShift,
             ast.RShift, ast.Invert, ast.USub, ast.Not, ast.And, ast.Or, ast.Eq, ast.NotEq, ast.Lt, ast.LtE, ast.Gt,
             ast.GtE, ast.Is, ast.IsNot, ast.In, ast.NotIn)
WALKED = ("zip", "enumerate", "reversed", "range")
WALKERS = ("list", "tuple", "dict", "sorted", "sum", "any", "all", "enumerate", "zip", "min", "max")
OWN_OF_PYTHON = WALKED + WALKERS + ("len", "abs", "int", "str", "bool", "isinstance", "ord", "repr", "divmod")
KEYWORDS = {"sorted": ("key", "reverse"), "min": ("key", "default"), "max": ("key", "default"), "sum": ("start",),
            "enumerate": ("start",), "zip": ("strict",)}
METHODS = set("""append clear copy count endswith extend find get index insert isalnum isalpha isdigit islower isspace
    isupper items join keys ljust lower lstrip partition pop remove replace reverse rfind rjust rpartition rsplit rstrip
    setdefault split splitlines startswith strip update upper values zfill bit_length""".split())
CHANGING = ("append", "clear", "extend", "insert", "pop", "remove", "reverse", "setdefault", "update")
NOT_USED = set("""register mro elements open input version_info with_traceback add_note attrgetter breakpoint builtins
    compile copyright credits delattr dir eval exec exit gc getattr globals hasattr help id importlib license locals
    methodcaller os quit setattr super type vars sys format format_map""".split())
WORDS = re.compile(r"\b(type|typing|typing_extensions|enum|Enum|IntEnum|StrEnum|Flag|IntFlag|Generic|Protocol|ABC|ABCMeta"
                   r"|namedtuple|NamedTuple|TypedDict|TYPE_CHECKING|abstractmethod)\b|dataclass|overload|contextmanager")
PLAIN_NAME = re.compile(r"[A-Za-z][A-Za-z0-9_]*\Z")
FILE_NAME = re.compile(r"([a-z][a-z0-9_]*|__init__)\.py\Z")
TAKEN = set(dir(builtins))
TAKEN_BY_VALUES = set().union(*[dir(kind) for kind in (str, int, list, dict, set, bytes, tuple)])


def is_text(node):
    return isinstance(node, ast.Expr) and isinstance(node.value, ast.Constant) and isinstance(node.value.value, str)


def is_plain(node, functions, inner=False):
    """A value that may stand at a file's top; within another one no list or dict."""
    if isinstance(node, ast.UnaryOp):
        return isinstance(node.op, ast.USub) and isinstance(node.operand, ast.Constant)
    if isinstance(node, ast.Constant):
        return node.value is None or isinstance(node.value, (bool, int, str))
    if isinstance(node, ast.Name):
        return inner and node.id in functions
    if isinstance(node, ast.Dict):
        return not inner and all(is_plain(part, functions, True) for part in node.keys + node.values)
    if isinstance(node, (ast.List, ast.Tuple)):
        return (isinstance(node, ast.Tuple) or not inner) and all(is_plain(part, functions, True) for part in node.elts)
    return False


class File:
    """One file's faults, as (rule, line)."""

    def __init__(self, source, own_methods=()):
        self.source = source
        self.tree = ast.parse(source)
        self.faults = []
        self.own_methods = set(own_methods)
        self.imports = {}
        self.top = {}
        for node in self.tree.body:
            self.look_at_top(node)
        self.look_at_rows()
        for node in ast.walk(self.tree):
            self.look_at_node(node)
            self.look_at_names(node)
            self.look_at_call(node)
        self.look_at_walks()

    def fault(self, rule, node):
        self.faults.append((rule, getattr(node, "lineno", 0)))

    def bind(self, name, node):
        if name in self.top:
            self.fault("L15", node)
        self.top[name] = node

    def look_at_rows(self):
        rows = self.source.split("\n")
        if len(rows) > 401:
            self.faults.append(("L10", 401))
        for number, row in enumerate(rows, 1):
            if len(row) > 120:
                self.faults.append(("L10", number))
            if re.search(r"[^ -~]", row):
                self.faults.append(("L14", number))
            if WORDS.search(row):
                self.faults.append(("L17", number))

    def look_at_top(self, node):
        if isinstance(node, ast.ImportFrom):
            for alias in node.names:
                if node.level or not (node.module or "").startswith(PACKAGE + ".") or alias.name == "*" or alias.asname:
                    self.fault("L2", node)
                self.imports[alias.name] = node.module
                self.bind(alias.name, node)
        elif isinstance(node, ast.FunctionDef):
            self.bind(node.name, node)
            self.look_at_function(node)
        elif isinstance(node, ast.ClassDef):
            self.bind(node.name, node)
            self.look_at_class(node)
        elif isinstance(node, ast.Assign) and isinstance(node.targets[0], ast.Name):
            functions = [name for name, made in self.top.items() if isinstance(made, ast.FunctionDef)]
            if not is_plain(node.value, functions):
                self.fault("L3", node)
            self.bind(node.targets[0].id, node)
        elif not (is_text(node) and node is self.tree.body[0]):
            self.fault("L3", node)

    def look_at_class(self, node):
        if node.bases or node.keywords or node.decorator_list:
            self.fault("L5", node)
        names = []
        for part in node.body:
            if isinstance(part, ast.FunctionDef):
                names.append(part.name)
                self.look_at_function(part)
            elif not is_text(part):
                self.fault("L5", part)
        if len(names) != len(set(names)):
            self.fault("L18", node)

    def look_at_function(self, node):
        given = node.args
        if given.vararg or given.kwarg or given.kwonlyargs or given.posonlyargs or node.decorator_list:
            self.fault("L4", node)
        if any(not is_plain(default, ()) for default in given.defaults):
            self.fault("L4", node)
        if node.returns or any(argument.annotation for argument in given.args):
            self.fault("L21", node)
        if node.end_lineno - node.lineno + 1 > 40:
            self.fault("L10", node)
        if node.name == "__init__" and any(isinstance(part, ast.Return) for part in ast.walk(node)):
            self.fault("L28", node)
        for place, part in enumerate(node.body):
            for inner in ast.walk(part):
                if isinstance(inner, ast.stmt) and not isinstance(inner, STATEMENTS):
                    self.fault("L6", inner)
                if isinstance(inner, ast.Expr) and not isinstance(inner.value, ast.Call):
                    if not (is_text(inner) and place == 0):
                        self.fault("L6", inner)

    def look_at_node(self, node):
        if isinstance(node, ast.expr) and not isinstance(node, EXPRESSIONS):
            self.fault("L7", node)
        if isinstance(node, (ast.operator, ast.unaryop, ast.boolop, ast.cmpop)) and not isinstance(node, OPERATORS):
            self.fault("L7", node)
        if isinstance(node, ast.Constant) and not (node.value is None or isinstance(node.value, (bool, int, str))):
            self.fault("L7", node)
        if isinstance(node, ast.Constant) and isinstance(node.value, str) and "%" in node.value:
            self.fault("L27", node)
        if isinstance(node, ast.ListComp) and (len(node.generators) > 1 or len(node.generators[0].ifs) > 1):
            self.fault("L7", node)
        if isinstance(node, (ast.For, ast.While)) and node.orelse:
            self.fault("L6", node)
        if isinstance(node, ast.Assign) and (len(node.targets) > 1 or isinstance(node.targets[0], (ast.Tuple, ast.List))):
            self.fault("L6", node)
        if isinstance(node, ast.BinOp) and isinstance(node.op, ast.Pow):
            if not (isinstance(node.right, ast.Constant) and 0 <= node.right.value <= 64):
                self.fault("L27", node)
        if isinstance(node, ast.Compare):
            for operator, side in zip(node.ops, node.comparators):
                is_sure = isinstance(side, ast.Constant) and side.value in (None, True, False)
                if isinstance(operator, (ast.Is, ast.IsNot)) and not is_sure:
                    self.fault("L20", node)

    def look_at_names(self, node):
        bound = None
        if isinstance(node, ast.Name):
            bound = node.id if isinstance(node.ctx, ast.Store) else None
            if node.id in TAKEN and node.id not in OWN_OF_PYTHON:
                self.fault("L8", node)
            if node.id in NOT_USED:
                self.fault("L17", node)
            if bound is not None and node.id in self.imports:
                self.fault("L15", node)
        elif isinstance(node, ast.arg):
            bound = node.arg
            if bound in self.imports:
                self.fault("L15", node)
        elif isinstance(node, (ast.FunctionDef, ast.ClassDef)):
            bound = None if node.name == "__init__" else node.name
        elif isinstance(node, ast.Attribute):
            if node.attr in NOT_USED:
                self.fault("L17", node)
            if isinstance(node.ctx, ast.Store):
                bound = node.attr
                if node.attr in TAKEN_BY_VALUES:
                    self.fault("L26", node)
        if bound is not None:
            if not PLAIN_NAME.match(bound):
                self.fault("L12", node)
            if bound in TAKEN:
                self.fault("L15", node)

    def look_at_call(self, node):
        if not isinstance(node, ast.Call):
            return
        name = node.func.id if isinstance(node.func, ast.Name) else None
        for keyword in node.keywords:
            if keyword.arg not in KEYWORDS.get(name, ()):
                self.fault("L22", node)
        if isinstance(node.func, ast.Attribute) and node.func.attr not in METHODS | self.own_methods:
            self.fault("L25", node)

    def look_at_walks(self):
        walked = []
        for node in ast.walk(self.tree):
            if isinstance(node, (ast.For, ast.comprehension)):
                walked.append(node.iter)
            if isinstance(node, ast.Call) and isinstance(node.func, ast.Name) and node.func.id in WALKERS:
                walked.extend(node.args)
            if isinstance(node, ast.For):
                self.look_for_changes(node)
        for node in ast.walk(self.tree):
            is_walk = isinstance(node, ast.Call) and isinstance(node.func, ast.Name) and node.func.id in WALKED
            if is_walk and not any(node is other for other in walked):
                self.fault("L23", node)

    def look_for_changes(self, loop):
        walks = [loop.iter] + (loop.iter.args if isinstance(loop.iter, ast.Call) else [])
        walks = [ast.unparse(walk) for walk in walks]
        for node in ast.walk(ast.Module(loop.body, [])):
            changed = None
            if isinstance(node, ast.Subscript) and isinstance(node.ctx, ast.Store):
                changed = node.value
            if isinstance(node, ast.Call) and isinstance(node.func, ast.Attribute) and node.func.attr in CHANGING:
                changed = node.func.value
            if changed is not None and ast.unparse(changed) in walks:
                self.fault("L23", node)

    def tables(self):
        return [name for name, node in self.top.items()
                if isinstance(node, ast.Assign) and isinstance(node.value, (ast.List, ast.Dict))]


def table_faults(file):
    """Where a list or dict of the file's top is more than read."""
    allowed = []
    for node in ast.walk(file.tree):
        if isinstance(node, ast.Subscript) and isinstance(node.ctx, ast.Load):
            allowed.append(node.value)
        if isinstance(node, ast.Compare):
            allowed += node.comparators
        if isinstance(node, (ast.For, ast.comprehension)):
            allowed.append(node.iter)
        if isinstance(node, ast.Call) and isinstance(node.func, ast.Name) and node.func.id in ("len", "list", "dict"):
            allowed += node.args
    return [("L15", node.lineno) for node in ast.walk(file.tree)
            if isinstance(node, ast.Name) and isinstance(node.ctx, ast.Load) and node.id in file.tables()
            and not any(node is other for other in allowed)]


def methods_and_values(sources):
    """The names of all methods, and of all values that are given to objects."""
    methods, values = set(), set()
    for source in sources:
        for node in ast.walk(ast.parse(source)):
            if isinstance(node, ast.ClassDef):
                methods |= {part.name for part in node.body if isinstance(part, ast.FunctionDef)}
            if isinstance(node, ast.Attribute) and isinstance(node.ctx, ast.Store):
                values.add(node.attr)
    return methods - {"__init__"}, values


def faults_of(source):
    file = File(source, methods_and_values([source])[0])
    return {rule for rule, line in file.faults + table_faults(file)}


class Package(unittest.TestCase):

    def setUp(self):
        self.sources = {path.name: path.read_text("ascii") for path in sorted(FOLDER.glob("*.py"))}
        self.methods, self.values = methods_and_values(self.sources.values())
        self.files = {name: File(source, self.methods) for name, source in self.sources.items()}

    def test_files(self):
        self.assertIn("house.py", self.sources)
        self.assertIn("__init__.py", self.sources)
        for path in FOLDER.iterdir():
            if path.name != "__pycache__":
                self.assertRegex(path.name, FILE_NAME)
                self.assertNotIn(path.stem, TAKEN | NOT_USED)
                self.assertFalse(path.stem.startswith("test") or path.stem in ("site", "conftest"))

    def test_no_file_has_a_fault(self):
        for name, file in self.files.items():
            self.assertEqual(file.faults + table_faults(file), [], name)

    def test_names_of_methods_and_values(self):
        self.assertEqual(self.methods & self.values, set())
        self.assertEqual(self.methods & (TAKEN_BY_VALUES - METHODS - {"add", "discard"}), set())

    def test_imports_come_from_where_the_name_is_made(self):
        for name, file in self.files.items():
            for imported, module in file.imports.items():
                other = self.files[module.split(".", 1)[1] + ".py"]
                self.assertIn(imported, other.top, name)
                self.assertNotIn(imported, other.imports, name)

    def test_no_two_files_draw_from_one_another(self):
        drawn = {name: {module.split(".", 1)[1] + ".py" for module in file.imports.values()}
                 for name, file in self.files.items()}
        while drawn:
            free = [name for name, others in drawn.items() if not others & set(drawn)]
            self.assertTrue(free, drawn)
            for name in free:
                drawn.pop(name)


class Check(unittest.TestCase):
    """The check finds what it is there for."""

    def test_faults_are_found(self):
        for rule, source in (
                ("L2", "from os import path"), ("L2", "from lakesandpumps.house import *"), ("L2", "from .house import a"),
                ("L3", "import sys"), ("L3", "print(1)"), ("L3", "A = f(1)"), ("L3", "A = [[1], [2]]"), ("L3", "A = 1.5"),
                ("L4", "def f(*a):\n    return a"), ("L4", "def f(*, a):\n    return a"), ("L4", "@a\ndef f():\n    pass"),
                ("L5", "class A:\n    b = 1"), ("L6", "def f():\n    assert 1"), ("L6", "def f():\n    a = b = 1"),
                ("L6", "def f(x):\n    for a in x:\n        pass\n    else:\n        pass"), ("L6", "def f():\n    1"),
                ("L6", "def f(x):\n    with x:\n        pass"), ("L6", "def f(x):\n    try:\n        x()\n    finally:\n        x()"),
                ("L7", "def f():\n    return 1 / 2"), ("L7", "def f():\n    return 1.5"), ("L7", "def f(x):\n    return {1, x}"),
                ("L7", "def f(x):\n    return all(a for a in x)"), ("L7", "def f(x):\n    return [a for b in x for a in b]"),
                ("L7", "def f(x):\n    return x(*x)"), ("L8", "def f(x):\n    return round(x)"),
                ("L8", "def f(x):\n    return map(f, x)"), ("L10", "def f():\n" + "    pass\n" * 40),
                ("L10", "# " + "a" * 119), ("L12", "def f(x):\n    _a = x"), ("L14", "# \u00e9"), ("L14", "#\t"),
                ("L15", "def f():\n    pass\ndef f():\n    pass"), ("L15", "def f(max):\n    return max"),
                ("L15", "from lakesandpumps.house import a\ndef f(a):\n    return a"),
                ("L15", "A = [1]\ndef f():\n    return A"), ("L15", "A = [1]\ndef f():\n    A.append(1)"),
                ("L17", "# its type"), ("L17", "def f(x):\n    return x.open"), ("L20", "def f(x):\n    return x is f"),
                ("L21", "def f(x: int):\n    return x"), ("L22", "def f(x):\n    return f(x=x)"),
                ("L23", "def f(x):\n    return zip(x, x)"), ("L23", "def f(x):\n    for a in x:\n        x.append(a)"),
                ("L23", "def f(x):\n    for a, b in enumerate(x):\n        x[a] = b"),
                ("L25", "def f(x):\n    x.sort()"), ("L26", "class A:\n    def __init__(self):\n        self.items = 1"),
                ("L27", "def f(x):\n    return 2 ** x"), ("L28", "class A:\n    def __init__(self):\n        return None")):
            self.assertIn(rule, faults_of(source), source)

    def test_plain_code_has_none(self):
        self.assertEqual(faults_of('"""Words."""\nA = {1: (2, -3)}\n\n\ndef f(x):\n    """More."""\n    y = [0] * len(x)\n'
                                   "    for a, b in enumerate(x, start=1):\n        y[a] = A[b]\n    return y\n"), set())


if __name__ == "__main__":
    unittest.main()
