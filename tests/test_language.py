"""That the package's files keep to LANGUAGE.md, as far as a test can see it."""

import ast
import builtins
import pathlib
import re
import unittest

PACKAGE = "evenquay"
FOLDER = pathlib.Path(__file__).resolve().parent.parent / PACKAGE

PYTHON_OWN = {name for name in vars(builtins) if not name.startswith("_")}

# L8: the names of Python's own that may be used; print is for __main__.py alone.
OWN_NAMES = set(
    "len range enumerate zip min max sum abs sorted reversed int str bool list tuple dict set frozenset isinstance "
    "ord repr any all divmod Exception ValueError TypeError KeyError IndexError LookupError ZeroDivisionError "
    "ArithmeticError OverflowError RuntimeError NotImplementedError AttributeError StopIteration".split()
)

# L25: the methods of Python's own values that may be called.
OWN_METHODS = set(
    "append clear copy count endswith extend find get index insert isalnum isalpha isdigit islower isspace isupper "
    "items join keys ljust lower lstrip partition pop remove replace reverse rfind rjust rpartition rsplit rstrip "
    "setdefault split splitlines startswith strip update upper values zfill bit_length".split()
)

# L17: words that stand nowhere, and parts of words that stand nowhere either.
BARRED_WORDS = (
    r"\b(type|typing|typing_extensions|enum|Enum|IntEnum|StrEnum|Flag|IntFlag|Generic|Protocol|ABC|ABCMeta|"
    r"namedtuple|NamedTuple|TypedDict|TYPE_CHECKING|abstractmethod)\b|dataclass|overload|contextmanager"
)
BARRED_NAMES = set("register mro elements open input version_info with_traceback add_note format format_map".split())
BARRED_FILES = set("test tests testing site conftest sitecustomize usercustomize".split())

# L6 and L7: all forms that may stand in a file.
FORMS = (
    ast.Module, ast.ImportFrom, ast.Import, ast.alias, ast.FunctionDef, ast.ClassDef, ast.arguments, ast.arg,
    ast.Lambda, ast.Assign, ast.AugAssign, ast.If, ast.While, ast.For, ast.Return, ast.Break, ast.Continue, ast.Pass,
    ast.Raise, ast.Try, ast.ExceptHandler, ast.Expr, ast.Constant, ast.List, ast.Tuple, ast.Dict, ast.Set,
    ast.BinOp, ast.UnaryOp, ast.BoolOp, ast.Compare, ast.IfExp, ast.Call, ast.keyword, ast.Attribute, ast.Subscript,
    ast.Slice, ast.ListComp, ast.comprehension, ast.JoinedStr, ast.FormattedValue, ast.Name, ast.expr_context,
    ast.operator, ast.unaryop, ast.boolop, ast.cmpop,
)
BARRED_OPERATORS = (ast.Div, ast.MatMult)
# L23: what is walked on the spot, and what may walk it as its first thing.
WALKED = set("zip enumerate reversed range items keys values".split())
WALKERS = set("list tuple dict sorted sum any all enumerate zip min max".split())

# L15: the methods that only read a list or dict, and those that change one.
READING = set("get items keys values count index copy".split())
CHANGES = set("append clear extend insert pop remove reverse setdefault update".split())

# L22: the keywords at names of Python's own.
KEYWORDS = {
    "sorted": {"key", "reverse"}, "min": {"key", "default"}, "max": {"key", "default"},
    "sum": {"start"}, "enumerate": {"start"}, "zip": {"strict"},
}
# L17: not as names.
NOT_AS_NAMES = set(
    "attrgetter breakpoint builtins compile copyright credits delattr dir eval exec exit gc getattr globals hasattr "
    "help id importlib license locals methodcaller os quit setattr super vars".split()
)

# L26: what Python's own values have as a method or a value, and which of these an object's own may be called like.
OF_PYTHON = {name for kind in (str, int, list, dict, set, bytes) for name in dir(kind) if not name.startswith("__")}
FREE_METHODS = OWN_METHODS | {"add", "discard"}
FREE_VALUES = set("count index title find get join lower upper split strip copy add".split())
BARRED_VALUES = {"args"}

# L18: of Python's own error classes, those that an error class may stand under.
ERROR_BASES = {name for name in OWN_NAMES if name[0].isupper()} - {"StopIteration", "AttributeError"}
CLASS_METHODS = set("__init__ __eq__ __repr__ __str__ __len__".split())

TWO_UNDERSCORES = set("__init__ __eq__ __repr__ __str__ __len__ __all__ __version__ __name__".split())


def sign_faults(source):
    """L10 and L14: sizes and signs."""
    faults = []
    lines = source.split("\n")
    if len(source.splitlines()) > 400:
        faults.append("L10")
    if any(len(line) > 120 for line in lines) or "\t" in source:
        faults.append("L10")
    if any(sign != "\n" and not " " <= sign <= "~" for sign in source):
        faults.append("L14")
    if re.search(BARRED_WORDS, source):
        faults.append("L17")
    return faults


def function_faults(tree):
    """L4, L10 and L15: functions of 40 lines, plain parameters, none called like a name of Python's own."""
    faults = []
    for node in ast.walk(tree):
        if not isinstance(node, (ast.FunctionDef, ast.Lambda)):
            continue
        if node.end_lineno - node.lineno + 1 > 40:
            faults.append("L10")
        given = node.args
        if given.vararg or given.kwarg or given.kwonlyargs or given.posonlyargs:
            faults.append("L4")
        if isinstance(node, ast.FunctionDef) and node.decorator_list:
            faults.append("L4")
        if any(one.arg in PYTHON_OWN for one in given.args):
            faults.append("L15")
    return faults


def import_faults(tree, name):
    """L2 and L16: from .. import .. alone, at the top, from the package's own files, by full names."""
    faults = []
    for node in ast.walk(tree):
        if isinstance(node, ast.Import):
            if name != "__main__" or [alias.name for alias in node.names] != ["sys"]:
                faults.append("L2")
        if isinstance(node, ast.ImportFrom):
            future = node.module == "__future__" and [alias.name for alias in node.names] == ["annotations"]
            own = node.level == 0 and (node.module or "").startswith(PACKAGE + ".")
            starred = any(alias.name == "*" for alias in node.names)
            if node not in tree.body or starred or not (own or future) or (node.module or "").endswith("__main__"):
                faults.append("L2")
    return faults


def form_faults(tree):
    """L6, L7 and L20: the forms of statements and expressions."""
    faults = []
    for node in ast.walk(tree):
        if not isinstance(node, FORMS) or isinstance(node, BARRED_OPERATORS):
            faults.append("L6")
        if isinstance(node, (ast.For, ast.While)) and node.orelse or isinstance(node, ast.Try) and node.finalbody:
            faults.append("L6")
        if isinstance(node, ast.Assign) and (len(node.targets) > 1 or isinstance(node.targets[0], ast.Tuple)):
            faults.append("L6")
        if isinstance(node, ast.Expr) and not isinstance(node.value, ast.Call) and node is not tree.body[0]:
            faults.append("L6")
        if isinstance(node, ast.Constant) and isinstance(node.value, (float, complex, bytes)):
            faults.append("L7")
        if isinstance(node, ast.ListComp) and (len(node.generators) > 1 or len(node.generators[0].ifs) > 1):
            faults.append("L7")
        if isinstance(node, ast.Compare) and any(isinstance(sign, (ast.Is, ast.IsNot)) for sign in node.ops):
            if not all(isinstance(side, ast.Constant) for side in node.comparators):
                faults.append("L20")
    return faults


def name_faults(tree, name):
    """L8, L12, L15, L17 and L25: names, and the methods of Python's own."""
    faults = []
    methods = [node.name for node in ast.walk(tree) if isinstance(node, ast.FunctionDef)]
    for node in ast.walk(tree):
        word = None
        if isinstance(node, ast.Name):
            word = node.id
            python_own = word in PYTHON_OWN
            if python_own and isinstance(node.ctx, ast.Store):
                faults.append("L15")
            elif python_own and word not in OWN_NAMES and not (word == "print" and name == "__main__"):
                faults.append("L8")
        elif isinstance(node, (ast.FunctionDef, ast.ClassDef)):
            word = node.name
        elif isinstance(node, ast.Attribute):
            word = node.attr
        elif isinstance(node, ast.arg):
            word = node.arg
        if word is not None and word.startswith("_") and word not in TWO_UNDERSCORES:
            faults.append("L12")
        if word in BARRED_NAMES or isinstance(node, (ast.Name, ast.arg)) and word in NOT_AS_NAMES:
            faults.append("L17")
        if isinstance(node, ast.Call) and isinstance(node.func, ast.Attribute):
            if node.func.attr not in OWN_METHODS and node.func.attr not in methods:
                faults.append("L25")
    return faults


def called(node):
    """The name by which a call calls, or None."""
    if not isinstance(node, ast.Call):
        return None
    return node.func.id if isinstance(node.func, ast.Name) else getattr(node.func, "attr", None)


def walked_at_once(node, around):
    """L23: whether what is walked stands where it is walked on the spot."""
    if isinstance(around, (ast.For, ast.comprehension)):
        return around.iter is node
    joined = called(around) == "join" and isinstance(around.func.value, ast.Constant)
    return (called(around) in WALKERS or joined) and around.args[0] is node


def set_in_place(around):
    """L24: whether a set stands beside in, == or another set, or straight within sorted or len."""
    return isinstance(around, (ast.Compare, ast.BinOp)) or called(around) in ("sorted", "len")


def use_faults(tree):
    """L13, L19, L21 to L24 and L27: how Python's own is used."""
    faults = []
    around = {child: node for node in ast.walk(tree) for child in ast.iter_child_nodes(node)}
    for node in ast.walk(tree):
        name = called(node)
        if name in WALKED and not walked_at_once(node, around[node]):
            faults.append("L23")
        if name in ("set", "frozenset") and not set_in_place(around[node]):
            faults.append("L24")
        if name in OWN_NAMES and {given.arg for given in node.keywords} - KEYWORDS.get(name, set()):
            faults.append("L22")
        if isinstance(node, ast.Name) and node.id in OWN_NAMES - {"int", "str", "bool", "list", "tuple", "dict"}:
            handed = not isinstance(around[node], (ast.Call, ast.ClassDef, ast.ExceptHandler, ast.Tuple, ast.keyword))
            if handed or isinstance(around[node], ast.Call) and around[node].func is not node:
                faults.append("L22")
        if isinstance(node, ast.Set) and len(node.elts) > 2 and not isinstance(around[node], ast.Compare):
            faults.append("L13")
        if isinstance(node, ast.ExceptHandler) and getattr(node.type, "id", "Exception") in ("Exception", "TypeError"):
            faults.append("L19")
        if isinstance(node, ast.Raise) and not isinstance(node.exc, ast.Call):
            faults.append("L19")
        if isinstance(node, ast.arg) and node.annotation or isinstance(node, ast.FunctionDef) and node.returns:
            faults.append("L21")
        if isinstance(node, ast.Attribute) and node.attr in OWN_METHODS and isinstance(node.ctx, ast.Load):
            if getattr(around[node], "func", None) is not node:
                faults.append("L25")
        if isinstance(node, ast.BinOp) and isinstance(node.op, ast.Pow):
            if not (isinstance(node.right, ast.Constant) and 0 <= node.right.value <= 64):
                faults.append("L27")
        if isinstance(node, ast.Constant) and isinstance(node.value, str) and "%" in node.value:
            faults.append("L27")
    return faults


def walked_names(node):
    """The names of what a loop walks, itself or through enumerate, zip, reversed, items and their like."""
    if isinstance(node, ast.Name):
        return {node.id}
    inner = []
    if called(node) in ("enumerate", "zip", "reversed"):
        inner = node.args
    elif called(node) in ("items", "keys", "values"):
        inner = [node.func.value]
    return set().union(*[walked_names(one) for one in inner])


def loop_faults(tree):
    """L23: what a loop walks is not changed in it."""
    faults = []
    for loop in ast.walk(tree):
        if not isinstance(loop, ast.For):
            continue
        names = walked_names(loop.iter)
        for node in ast.walk(loop):
            value = getattr(node, "value", None) or getattr(getattr(node, "func", None), "value", None)
            stored = isinstance(node, ast.Subscript) and isinstance(node.ctx, ast.Store)
            changed = called(node) in CHANGES and isinstance(node.func, ast.Attribute)
            if (stored or changed) and isinstance(value, ast.Name) and value.id in names:
                faults.append("L23")
    return faults


def top_names(tree):
    """The names that a file binds by itself, imports left out, each as often as it is bound."""
    names = []
    for node in tree.body:
        if isinstance(node, (ast.FunctionDef, ast.ClassDef)):
            names.append(node.name)
        if isinstance(node, ast.Assign):
            names.extend(target.id for target in node.targets if isinstance(target, ast.Name))
    return names


def top_faults(tree):
    """L3 and L15: what may stand at a file's top, each name once."""
    faults = []
    for place, node in enumerate(tree.body):
        docstring = place == 0 and isinstance(node, ast.Expr) and isinstance(node.value, ast.Constant)
        guard = place == len(tree.body) - 1 and isinstance(node, ast.If)
        plain = isinstance(node, (ast.ImportFrom, ast.Import, ast.FunctionDef, ast.ClassDef, ast.Assign))
        if not (docstring or guard or plain):
            faults.append("L3")
    names = top_names(tree)
    if len(names) != len(set(names)):
        faults.append("L15")
    return faults


def is_plain(node, functions, within=False):
    """L3 and L15: whether a value is a plain one; a list or dict holds no list or dict."""
    if isinstance(node, ast.UnaryOp) and isinstance(node.op, ast.USub):
        node = node.operand
    if isinstance(node, ast.Constant):
        return True
    if isinstance(node, ast.Name):
        return node.id in functions
    if isinstance(node, (ast.List, ast.Dict)) and within:
        return False
    parts = getattr(node, "elts", None) if isinstance(node, (ast.List, ast.Tuple)) else None
    if isinstance(node, ast.Dict):
        parts = node.keys + node.values
    return parts is not None and all(is_plain(part, functions, True) for part in parts)


def value_faults(tree):
    """L3 and L15: the values of a file's top are plain, and only read."""
    faults = []
    functions = []
    kept = set()
    for node in tree.body:
        if isinstance(node, ast.FunctionDef):
            functions.append(node.name)
        if isinstance(node, ast.Assign):
            if not is_plain(node.value, functions):
                faults.append("L3")
            if isinstance(node.value, (ast.List, ast.Dict)):
                kept.update(target.id for target in node.targets if isinstance(target, ast.Name))
    around = {child: node for node in ast.walk(tree) for child in ast.iter_child_nodes(node)}
    for node in ast.walk(tree):
        if isinstance(node, ast.Name) and isinstance(node.ctx, ast.Load) and node.id in kept:
            if not only_read(node, around[node], around):
                faults.append("L15")
    return faults


def only_read(node, use, around):
    """Whether a list or dict of a file's top is only read where it stands."""
    if isinstance(use, ast.Subscript):
        return isinstance(use.ctx, ast.Load) and use.value is node
    if isinstance(use, ast.Attribute):
        return use.attr in READING and called(around[use]) == use.attr
    if isinstance(use, ast.Call):
        return called(use) in OWN_NAMES
    return isinstance(use, (ast.Compare, ast.For, ast.comprehension))


def values_in(tree):
    """The names under which values are given to objects."""
    told = [node for node in ast.walk(tree) if isinstance(node, ast.Attribute)]
    return {node.attr for node in told if isinstance(node.ctx, ast.Store)}


def class_faults(tree):
    """L5, L18, L26 and L28: the classes, their methods and their values."""
    faults = []
    classes = [node for node in ast.walk(tree) if isinstance(node, ast.ClassDef)]
    for node in classes:
        methods = [one.name for one in node.body if isinstance(one, ast.FunctionDef)]
        values = values_in(node)
        words = [one for one in node.body if isinstance(one, ast.Expr) and isinstance(one.value, ast.Constant)]
        plain = [one for one in node.body if isinstance(one, (ast.FunctionDef, ast.Pass)) or one in words]
        if len(plain) < len(node.body) or node.decorator_list or node.keywords or len(node.bases) > 1:
            faults.append("L5")
        if any(name.startswith("__") and name not in CLASS_METHODS for name in methods):
            faults.append("L5")
        if node not in tree.body:
            faults.append("L15")
        bases = [base.id for base in node.bases if isinstance(base, ast.Name)]
        if any(base in PYTHON_OWN and base not in ERROR_BASES for base in bases):
            faults.append("L18")
        if len(set(methods)) < len(methods) or values & set(methods):
            faults.append("L18")
        if set(methods) & (OF_PYTHON - FREE_METHODS) or values & (OF_PYTHON - FREE_VALUES | BARRED_VALUES):
            faults.append("L26")
        for one in node.body:
            if isinstance(one, ast.FunctionDef) and one.name == "__init__":
                if any(isinstance(inner, ast.Return) and inner.value for inner in ast.walk(one)):
                    faults.append("L28")
    return faults + class_use_faults(tree, [node.name for node in classes])


def class_use_faults(tree, classes):
    """L18: a class is called, is a base, or stands by isinstance, except or raise; no value is given to it."""
    faults = []
    around = {child: node for node in ast.walk(tree) for child in ast.iter_child_nodes(node)}
    drawn = [alias.name for node in tree.body if isinstance(node, ast.ImportFrom) for alias in node.names]
    classes = classes + [name for name in drawn if name[0].isupper() and not name.isupper()]
    for node in ast.walk(tree):
        if isinstance(node, ast.Name) and node.id in classes:
            use = around[node]
            if isinstance(use, ast.Tuple):
                use = around[use]
            by_name = isinstance(use, (ast.ClassDef, ast.ExceptHandler, ast.Raise))
            asked = isinstance(use, ast.Call) and (use.func is node or called(use) == "isinstance")
            if not by_name and not asked and not (isinstance(use, ast.Attribute) and use.attr == "__init__"):
                faults.append("L18")
    return faults


def faults_of(source, name="some"):
    tree = ast.parse(source)
    told = sign_faults(source) + function_faults(tree) + import_faults(tree, name) + form_faults(tree)
    told += name_faults(tree, name) + use_faults(tree) + loop_faults(tree) + value_faults(tree) + class_faults(tree)
    return sorted(set(told + top_faults(tree)))


def draws(tree):
    """A dict from each file of the package that is drawn from to the names drawn."""
    drawn = {}
    for node in ast.walk(tree):
        if isinstance(node, ast.ImportFrom) and node.module != "__future__":
            file = node.module.removeprefix(PACKAGE + ".")
            drawn.setdefault(file, []).extend(alias.name for alias in node.names)
    return drawn


def in_a_ring(drawn):
    """The files that draw from themselves, in whatever many steps."""
    rings = []
    for file in drawn:
        seen = set()
        ahead = list(drawn[file])
        while ahead:
            step = ahead.pop()
            if step not in seen:
                seen.add(step)
                ahead.extend(drawn.get(step, []))
        if file in seen:
            rings.append(file)
    return rings


class Package(unittest.TestCase):
    def setUp(self):
        self.sources = {path.stem: path.read_bytes().decode("utf-8") for path in FOLDER.glob("*.py")}
        self.trees = {name: ast.parse(source) for name, source in self.sources.items()}

    def test_the_files_of_the_document_are_there(self):
        for name in ("__init__", "errors", "fleets", "plans", "dealing", "wants", "flows", "evening", "chains", "peaks",
                     "prices", "texts", "desk"):
            self.assertIn(name, self.sources)

    def test_nothing_else_lies_in_the_folder(self):
        others = [path.name for path in FOLDER.iterdir() if path.suffix != ".py" and path.name != "__pycache__"]
        self.assertEqual(others, [])

    def test_file_names(self):
        for name in self.sources:
            self.assertRegex(name, r"^([a-z][a-z0-9_]*|__init__|__main__)$")
            self.assertNotIn(name, BARRED_FILES)
            self.assertFalse(name.startswith("test_") or name in PYTHON_OWN)

    def test_no_file_has_a_fault(self):
        for name, source in self.sources.items():
            self.assertEqual(faults_of(source, name), [], name)

    def test_names_are_drawn_from_the_file_that_defines_them(self):
        for name, tree in self.trees.items():
            for file, drawn in draws(tree).items():
                self.assertIn(file, self.trees, name)
                for one in drawn:
                    self.assertIn(one, top_names(self.trees[file]), name)

    def test_no_two_files_draw_from_one_another(self):
        self.assertEqual(in_a_ring({name: list(draws(tree)) for name, tree in self.trees.items()}), [])

    def test_no_local_is_called_like_an_import(self):
        for name, tree in self.trees.items():
            drawn = [one for names in draws(tree).values() for one in names]
            words = [node for node in ast.walk(tree) if isinstance(node, ast.Name)]
            bound = [node.id for node in words if isinstance(node.ctx, ast.Store)]
            bound += [node.arg for node in ast.walk(tree) if isinstance(node, ast.arg)]
            self.assertEqual(sorted(set(drawn) & set(bound)), [], name)

    def test_no_name_is_a_method_and_a_value(self):
        classes = [node for tree in self.trees.values() for node in tree.body if isinstance(node, ast.ClassDef)]
        methods = {one.name for node in classes for one in node.body if isinstance(one, ast.FunctionDef)}
        values = set().union(*[values_in(tree) for tree in self.trees.values()])
        self.assertEqual(sorted(methods & values), [])

    def test_the_top_binds_no_name_of_a_file(self):
        self.assertEqual(top_names(self.trees["__init__"]), [])
        self.assertEqual(draws(self.trees["__init__"]), {})


class TheTestItself(unittest.TestCase):
    """A checker that finds nothing would let everything pass."""

    def assert_fault(self, rule, source):
        self.assertIn(rule, faults_of(source), source)

    def test_a_plain_file_has_no_fault(self):
        self.assertEqual(faults_of('"""A file."""\n\nONE = 1\n\n\ndef twice(x):\n    return [x, len([x])]\n'), [])

    def test_sizes(self):
        self.assertEqual(faults_of("def f():\n" + "    pass\n" * 39), [])
        self.assert_fault("L10", "def f():\n" + "    pass\n" * 40)
        self.assertEqual(faults_of("# " + "a" * 118 + "\n" * 400), [])
        self.assert_fault("L10", "# " + "a" * 119 + "\n")
        self.assert_fault("L10", "\n" * 401)
        self.assert_fault("L10", "def f():\n\tpass\n")

    def test_signs(self):
        self.assert_fault("L14", "# \u00e9\n")
        self.assert_fault("L14", "ONE = 1\r\n")

    def test_imports(self):
        self.assertEqual(faults_of("from evenquay.errors import NoShip\n"), [])
        for row in ("import sys", "import evenquay.errors", "from evenquay.errors import *",
                    "from .errors import NoShip", "from evenquay import errors", "from random import random",
                    "from evenquay.__main__ import run",
                    "def f():\n    from evenquay.errors import NoShip"):
            self.assert_fault("L2", row + "\n")

    def test_rings(self):
        self.assertEqual(in_a_ring({"a": ["b"], "b": ["c"], "c": []}), [])
        self.assertEqual(in_a_ring({"a": ["b"], "b": ["c"], "c": ["a"], "d": ["a"]}), ["a", "b", "c"])

    def test_forms(self):
        for body in ("a, b = x", "a = b = x", "return x / 2", "return {y for y in x}", "yield x", "assert x", "del x",
                     "while x:\n        pass\n    else:\n        pass", "return sum(y for y in x)", "x\n    return x"):
            self.assert_fault("L6", f"def f(x):\n    {body}\n")
        self.assert_fault("L7", "ONE = 1.5\n")
        self.assert_fault("L7", "def f(x):\n    return [z for y in x for z in y]\n")
        self.assert_fault("L20", "def f(x, y):\n    return x is y\n")
        self.assert_fault("L4", "def f(*x):\n    return x\n")

    def test_names(self):
        self.assert_fault("L8", "def f(x):\n    return map(str, x)\n")
        self.assert_fault("L12", "def f(x):\n    return [1 for _ in x]\n")
        self.assert_fault("L15", "def f(id):\n    return id\n")
        self.assert_fault("L15", "def f(x):\n    min = x\n    return min\n")
        self.assert_fault("L15", "ONE = 1\nONE = 2\n")
        self.assert_fault("L17", "# a type\n")
        self.assert_fault("L17", "def f(x):\n    x.format = 1\n")
        self.assert_fault("L25", "def f(x):\n    x.sort()\n")
        self.assert_fault("L3", "print(1)\n")

    def test_uses(self):
        for body in ("y = zip(x, x)", "return reversed(x)", "y = x.items()", "f(range(3))", "return min(x, range(3))"):
            self.assert_fault("L23", f"def f(x):\n    {body}\n")
        for body in ("for y in x:\n        x.append(y)", "for k, y in enumerate(x):\n        x[k] = y"):
            self.assert_fault("L23", f"def f(x):\n    {body}\n")
        self.assert_fault("L24", "def f(x):\n    y = set(x)\n    return y\n")
        self.assert_fault("L24", "def f(x):\n    return [y for y in set(x)]\n")
        self.assert_fault("L22", "def f(x):\n    return int(x, base=2)\n")
        self.assert_fault("L22", "def f(x):\n    y = len\n    return y(x)\n")
        self.assert_fault("L13", "def f(x):\n    y = {1, 2, 3}\n    return x in y\n")
        self.assert_fault("L19", "def f(x):\n    try:\n        f(x)\n    except Exception:\n        pass\n")
        self.assert_fault("L19", "def f(x):\n    raise x\n")
        self.assert_fault("L21", "def f(x: int):\n    return x\n")
        self.assert_fault("L25", "def f(x):\n    y = x.append\n    return y\n")
        self.assert_fault("L27", "def f(x):\n    return 2 ** x\n")
        self.assert_fault("L27", "ONE = '1%'\n")

    def test_values_of_the_top(self):
        for row in ("ONE = 10 ** 15", "ONE = len('a')", "ONE = 1 + 1", "ONE = [two]", "ONE = {1: [2]}", "ONE = [[1]]"):
            self.assert_fault("L3", row + "\n")
        for row in ("ONE = -1", "ONE = 'a'", "ONE = {'a': (1, 2), 'b': ()}", "ONE = [1, (2, 'c')]", "ONE = None"):
            self.assertEqual(faults_of(row + "\n"), [], row)
        for body in ("ONE.append(x)", "ONE[0] = x", "return ONE", "f(ONE)", "x.append(ONE)", "return (x, ONE)"):
            self.assert_fault("L15", f"ONE = [1]\n\n\ndef f(x):\n    {body}\n")
        for body in ("return ONE[x]", "return x in ONE", "return list(ONE)", "return [y for y in ONE]",
                     "return len(ONE)"):
            self.assertEqual(faults_of(f"ONE = [1]\n\n\ndef f(x):\n    {body}\n"), [], body)

    def test_classes(self):
        self.assertEqual(faults_of("class A:\n    def __init__(self, x):\n        self.x = x\n"), [])
        for body in ("x = 1", "def __add__(self, x):\n        return x", "def __iter__(self):\n        return 1"):
            self.assert_fault("L5", f"class A:\n    {body}\n")
        self.assert_fault("L5", "class A(B, C):\n    pass\n")
        self.assert_fault("L15", "def f():\n    class A:\n        pass\n")
        self.assert_fault("L17", "def f(x):\n    return getattr(x, 'y')\n")
        self.assert_fault("L18", "class A:\n    def f(self):\n        self.f = 1\n")
        self.assert_fault("L18", "class A(AttributeError):\n    pass\n")
        self.assert_fault("L18", "class A:\n    pass\n\n\ndef f(x):\n    return [A, x]\n")
        self.assert_fault("L18", "class A:\n    pass\n\n\ndef f(x):\n    A.x = x\n")
        self.assert_fault("L26", "class A:\n    def sort(self):\n        return 1\n")
        self.assert_fault("L26", "class A:\n    def __init__(self):\n        self.items = 1\n")
        self.assert_fault("L28", "class A:\n    def __init__(self):\n        return None\n")

    def test_uses_as_they_should_be(self):
        for body in ("return list(zip(x, x))", "return sorted(set(x))", "return len(set(x) | set(x))",
                     "return sorted(x.items(), reverse=True)", "return [k for k, y in enumerate(x)]",
                     "return max([len(y) for y in x], default=0)", "return 10 ** 40",
                     "for y in list(x):\n        x.append(y)\n    return isinstance(x, (int, str))"):
            self.assertEqual(faults_of(f"def f(x):\n    {body}\n"), [], body)


if __name__ == "__main__":
    unittest.main()
