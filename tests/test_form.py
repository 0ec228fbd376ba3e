"""The package keeps to its small part of Python: the rules that a walk of its syntax can see."""

import ast
import builtins
import pathlib
import re
import unittest

PACKAGE = pathlib.Path(__file__).resolve().parent.parent / "sealedgoods"

OWN_NAMES = set(
    "len range enumerate zip min max sum abs sorted reversed int str bool list tuple dict set frozenset isinstance ord repr"
    " any all divmod Exception ValueError TypeError KeyError IndexError LookupError ZeroDivisionError ArithmeticError"
    " OverflowError RuntimeError NotImplementedError AttributeError StopIteration".split())
METHODS = set(
    "append clear copy count endswith extend find get index insert isalnum isalpha isdigit islower isspace isupper items"
    " join keys ljust lower lstrip partition pop remove replace reverse rfind rjust rpartition rsplit rstrip setdefault"
    " split splitlines startswith strip update upper values zfill bit_length".split())
VALUES_TOO = set("count index title find get join lower upper split strip copy add".split())
DUNDERS = {"__init__", "__eq__", "__repr__", "__str__", "__len__"}
NEVER = set(
    "register mro elements open input version_info with_traceback add_note format format_map attrgetter breakpoint builtins"
    " compile copyright credits delattr dir eval exec exit gc getattr globals hasattr help id importlib license locals"
    " methodcaller os quit setattr super type vars sys chr print".split())
WORDS = re.compile(
    r"\b(type|typing|typing_extensions|enum|Enum|IntEnum|StrEnum|Flag|IntFlag|Generic|Protocol|ABC|ABCMeta|namedtuple"
    r"|NamedTuple|TypedDict|TYPE_CHECKING|abstractmethod)\b|dataclass|overload|contextmanager")
PYTHONS = {name for kind in (str, int, list, dict, set, bytes, tuple) for name in dir(kind)}
CHANGES = set("append clear extend insert pop remove reverse setdefault update".split())
WALKED = {"zip", "enumerate", "reversed", "range", "items", "keys", "values"}
WALKERS = {"list", "tuple", "dict", "sorted", "sum", "any", "all", "enumerate", "zip", "min", "max", "join"}
KEYWORDS = {
    "sorted": {"key", "reverse"}, "min": {"key", "default"}, "max": {"key", "default"}, "sum": {"start"},
    "enumerate": {"start"}, "zip": {"strict"},
}
ALLOWED = (
    ast.Module, ast.ImportFrom, ast.alias, ast.FunctionDef, ast.ClassDef, ast.arguments, ast.arg, ast.Assign, ast.AugAssign,
    ast.If, ast.While, ast.For, ast.Return, ast.Break, ast.Continue, ast.Pass, ast.Raise, ast.Try, ast.ExceptHandler,
    ast.Expr, ast.Constant, ast.List, ast.Tuple, ast.Dict, ast.BinOp, ast.UnaryOp, ast.BoolOp, ast.Compare, ast.IfExp,
    ast.Call, ast.keyword, ast.Attribute, ast.Subscript, ast.Slice, ast.ListComp, ast.comprehension, ast.Name, ast.Lambda,
    ast.JoinedStr, ast.FormattedValue, ast.expr_context, ast.operator, ast.unaryop, ast.boolop, ast.cmpop,
)


def called(node):
    """The name by which a call calls, '' if it's no plain name or method."""
    if isinstance(node, ast.Call):
        return getattr(node.func, "id", getattr(node.func, "attr", ""))
    return ""


def is_plain(node, functions):
    if isinstance(node, (ast.List, ast.Tuple)):
        return all(is_plain(part, functions) for part in node.elts)
    if isinstance(node, ast.Dict):
        return all(part is not None and is_plain(part, functions) for part in node.keys + node.values)
    if isinstance(node, ast.UnaryOp):
        return isinstance(node.op, ast.USub) and isinstance(node.operand, ast.Constant)
    if isinstance(node, ast.Name):
        return node.id in functions
    return isinstance(node, ast.Constant)


def parents(tree):
    return {child: node for node in ast.walk(tree) for child in ast.iter_child_nodes(node)}


def bound(tree):
    """Every name that the file binds: at its top, as a parameter or as a local."""
    names = [node.id for node in ast.walk(tree) if isinstance(node, ast.Name) and isinstance(node.ctx, ast.Store)]
    names += [node.arg for node in ast.walk(tree) if isinstance(node, ast.arg)]
    return names


def top_faults(tree):
    """L2, L3, L5, L15, L16: what stands at the file's top."""
    names, functions = [], []
    for place, node in enumerate(tree.body):
        if isinstance(node, ast.ImportFrom):
            names += [part.name for part in node.names]
            if node.level or not node.module.startswith("sealedgoods.") or any(part.asname for part in node.names):
                yield "L2", node
        elif isinstance(node, (ast.FunctionDef, ast.ClassDef)):
            names.append(node.name)
            functions.append(node.name if isinstance(node, ast.FunctionDef) else "")
        elif isinstance(node, ast.Assign) and len(node.targets) == 1 and isinstance(node.targets[0], ast.Name):
            names.append(node.targets[0].id)
            if not is_plain(node.value, functions):
                yield "L3", node
            if isinstance(node.value, (ast.List, ast.Dict)):
                if any(isinstance(part, (ast.List, ast.Dict)) for part in ast.walk(node.value) if part is not node.value):
                    yield "L15", node
        elif place or not (isinstance(node, ast.Expr) and isinstance(node.value, ast.Constant)):
            yield "L3", node
    for name in names:
        if names.count(name) > 1:
            yield "L15", tree.body[0]


def name_faults(tree):
    """L8, L12, L15, L17: how things are called."""
    heads = {node.name for node in tree.body if isinstance(node, ast.ClassDef)}
    heads |= {part.name for node in tree.body if isinstance(node, ast.ImportFrom) for part in node.names}
    inside = [name for node in tree.body if isinstance(node, (ast.FunctionDef, ast.ClassDef)) for name in bound(node)]
    for name in inside:
        if name in heads or hasattr(builtins, name):
            yield "L15", tree.body[0]
    defined = set(bound(tree)) | heads | {node.name for node in ast.walk(tree) if isinstance(node, ast.FunctionDef)}
    for node in ast.walk(tree):
        name = getattr(node, "id", getattr(node, "attr", getattr(node, "name", getattr(node, "arg", None))))
        if not isinstance(name, str):
            continue
        if name in NEVER:
            yield "L17", node
        if not isinstance(node, ast.alias) and name not in DUNDERS and not re.fullmatch(r"[A-Za-z][A-Za-z0-9_]*", name):
            yield "L12", node
        if isinstance(node, ast.Name) and name not in defined and name not in OWN_NAMES:
            yield "L8", node


def def_faults(tree):
    """L4, L5, L10, L21, L28: functions and classes."""
    for node in ast.walk(tree):
        if isinstance(node, (ast.FunctionDef, ast.ClassDef)) and node.decorator_list:
            yield "L4", node
        if isinstance(node, (ast.FunctionDef, ast.Lambda)):
            form = node.args
            if form.vararg or form.kwarg or form.kwonlyargs or form.posonlyargs:
                yield "L4", node
            if not all(is_plain(value, ()) for value in form.defaults):
                yield "L4", node
        if isinstance(node, ast.FunctionDef):
            if node.end_lineno - node.lineno >= 40:
                yield "L10", node
            if node.returns or any(part.annotation for part in node.args.args):
                yield "L21", node
        if isinstance(node, ast.ClassDef):
            if len(node.bases) > 1 or node.keywords:
                yield "L5", node
            for part in node.body[1:] if ast.get_docstring(node) else node.body:
                if not isinstance(part, ast.FunctionDef):
                    yield "L5", part
                elif part.name.startswith("__") and part.name != "__init__":
                    yield "L28", part


def expression_faults(tree):
    """L6, L7, L19, L20, L22, L25, L27: statements and expressions."""
    methods = METHODS | all_methods()
    for node in ast.walk(tree):
        if not isinstance(node, ALLOWED):
            yield "L7", node
        if isinstance(node, ast.Assign) and len(node.targets) > 1:
            yield "L6", node
        if isinstance(node, (ast.For, ast.While, ast.Try)) and (getattr(node, "finalbody", []) or (
                not isinstance(node, ast.Try) and node.orelse)):
            yield "L6", node
        if isinstance(node, ast.ListComp) and (len(node.generators) > 1 or len(node.generators[0].ifs) > 1):
            yield "L7", node
        if isinstance(node, (ast.BinOp, ast.AugAssign)) and isinstance(node.op, (ast.Div, ast.MatMult)):
            yield "L7", node
        if isinstance(node, ast.Constant) and isinstance(node.value, (float, bytes, complex)):
            yield "L7", node
        if isinstance(node, ast.FormattedValue) and not (isinstance(node.value, ast.Name) and node.format_spec is None):
            yield "L7", node
        if isinstance(node, ast.Constant) and isinstance(node.value, str) and "%" in node.value:
            yield "L27", node
        if isinstance(node, ast.BinOp) and isinstance(node.op, ast.Pow) and not isinstance(node.right, ast.Constant):
            yield "L27", node
        if isinstance(node, ast.ExceptHandler) and getattr(node.type, "id", "Exception") in ("Exception", "TypeError"):
            yield "L19", node
        if isinstance(node, ast.Compare):
            for kind, beside in zip(node.ops, node.comparators):
                if isinstance(kind, (ast.Is, ast.IsNot)) and ast.unparse(beside) not in ("None", "True", "False"):
                    yield "L20", node
        if isinstance(node, ast.Call) and called(node) in OWN_NAMES | METHODS:
            if not {part.arg for part in node.keywords} <= KEYWORDS.get(called(node), set()):
                yield "L22", node
        if isinstance(node, ast.Call) and isinstance(node.func, ast.Attribute):
            if node.func.attr not in methods:
                yield "L25", node


def all_methods():
    """The methods of the package's own classes."""
    found = set()
    for path in PACKAGE.glob("*.py"):
        for node in ast.parse(path.read_text()).body:
            if isinstance(node, ast.ClassDef):
                found |= {part.name for part in node.body if isinstance(part, ast.FunctionDef)}
    return found


def walk_faults(tree):
    """L23, L24: what is walked on the spot, and where sets stand."""
    above = parents(tree)
    for node in ast.walk(tree):
        where = above.get(node)
        if called(node) in WALKED:
            spot = isinstance(where, (ast.For, ast.comprehension)) and where.iter is node
            if not spot and called(where) not in WALKERS:
                yield "L23", node
        if called(node) in ("set", "frozenset"):
            while isinstance(where, ast.BinOp):
                where = above[where]
            if not isinstance(where, ast.Compare) and called(where) not in ("sorted", "len"):
                yield "L24", node


def loop_faults(tree):
    """L23: what a loop walks is not changed in it."""
    for loop in ast.walk(tree):
        if not isinstance(loop, ast.For):
            continue
        # A list(..), sorted(..) or sum of lists is another list than the one it's made from.
        through = [loop.iter] + (list(loop.iter.args) if called(loop.iter) in ("enumerate", "zip", "reversed") else [])
        through += [loop.iter.func.value] if called(loop.iter) in ("items", "keys", "values") else []
        walked = {ast.unparse(part) for part in through if isinstance(part, (ast.Name, ast.Attribute))}
        for node in [node for part in loop.body for node in ast.walk(part)]:
            if isinstance(node, ast.Call) and isinstance(node.func, ast.Attribute) and node.func.attr in CHANGES:
                if ast.unparse(node.func.value) in walked:
                    yield "L23", node
            if isinstance(node, ast.Subscript) and isinstance(node.ctx, ast.Store) and ast.unparse(node.value) in walked:
                yield "L23", node


def kept_faults(tree):
    """L15: a list or dict of the file's top is only read by the defs."""
    kept = {
        node.targets[0].id for node in tree.body if isinstance(node, ast.Assign) and isinstance(node.value, (ast.List, ast.Dict))
    }
    above = parents(tree)
    for node in ast.walk(tree):
        if isinstance(node, ast.Name) and node.id in kept and isinstance(node.ctx, ast.Load):
            where = above[node]
            indexed = isinstance(where, ast.Subscript) and where.value is node and isinstance(where.ctx, ast.Load)
            walked = isinstance(where, (ast.For, ast.comprehension, ast.Compare))
            read = isinstance(where, ast.Attribute) and where.attr in ("get", "items", "keys", "values", "index", "count")
            if not (indexed or walked or read or called(where) in ("len", "list", "dict", "sorted", "tuple")):
                yield "L15", node


def class_faults(trees):
    """L18, L26: names of methods and values over the whole package."""
    methods, values = {}, {}
    for tree in trees:
        for node in ast.walk(tree):
            if isinstance(node, ast.ClassDef):
                methods.update({part.name: part for part in node.body if isinstance(part, ast.FunctionDef)})
            if isinstance(node, ast.Attribute) and isinstance(node.ctx, ast.Store):
                values[node.attr] = node
    for name in set(methods) & set(values):
        yield "L18", methods[name]
    for name in set(methods) & PYTHONS - METHODS - DUNDERS - {"add", "discard"}:
        yield "L26", methods[name]
    for name in set(values) & PYTHONS - VALUES_TOO:
        yield "L26", values[name]


def text_faults(text):
    """L10, L14, L17: lines, signs and words."""
    lines = text.split("\n")
    if len(lines) > 401:
        yield "L10"
    for line in lines:
        if len(line) > 120:
            yield "L10"
        if any(not " " <= sign <= "~" for sign in line):
            yield "L14"
        if WORDS.search(line):
            yield "L17"


def faults_of(text):
    """The rules that this file's text breaks."""
    tree = ast.parse(text)
    found = list(text_faults(text))
    for check in (top_faults, name_faults, def_faults, expression_faults, walk_faults, loop_faults, kept_faults):
        found += [rule for rule, node in check(tree)]
    return found + [rule for rule, node in class_faults([tree])]


def draws_of(path):
    return [node.module.split(".")[1] for node in ast.parse(path.read_text()).body if isinstance(node, ast.ImportFrom)]


class FormTest(unittest.TestCase):
    def files(self):
        return sorted(PACKAGE.glob("*.py"))

    def test_each_file_keeps_the_rules(self):
        for path in self.files():
            self.assertEqual(faults_of(path.read_text()), [], path.name)

    def test_the_classes_of_all_files_together(self):
        trees = [ast.parse(path.read_text()) for path in self.files()]
        self.assertEqual(list(class_faults(trees)), [])

    def test_the_folder_holds_plain_files_alone(self):
        self.assertTrue((PACKAGE / "__init__.py").is_file())
        for path in PACKAGE.iterdir():
            if path.name != "__pycache__":
                self.assertTrue(re.fullmatch(r"(__init__|__main__|[a-z][a-z0-9_]*)\.py", path.name), path.name)
                self.assertFalse(path.stem.startswith(("test", "site", "conftest")), path.name)
                self.assertNotIn(path.stem, dir(builtins))

    def test_names_are_drawn_from_the_file_that_defines_them(self):
        for path in self.files():
            for node in ast.parse(path.read_text()).body:
                if isinstance(node, ast.ImportFrom):
                    source = ast.parse((PACKAGE / (node.module.split(".")[1] + ".py")).read_text())
                    defined = {getattr(part, "name", None) for part in source.body}
                    defined |= {part.targets[0].id for part in source.body if isinstance(part, ast.Assign)}
                    self.assertLessEqual({part.name for part in node.names}, defined, path.name)

    def test_no_two_files_draw_from_one_another(self):
        draws = {path.stem: draws_of(path) for path in self.files()}
        while draws:
            free = [name for name, others in draws.items() if not set(others) & set(draws)]
            self.assertTrue(free, draws)
            for name in free:
                draws.pop(name)
        self.assertEqual(draws_of(PACKAGE / "__init__.py"), [])

    def test_the_checks_see_what_they_look_for(self):
        for rule, text in (
            ("L2", "from .desk import answers\n"), ("L2", "from json import loads\n"), ("L3", "X = 2 * 3\n"), ("L3", "f()\n"),
            ("L4", "def f(*xs):\n    return 1\n"), ("L4", "def f(x=[]):\n    return [y for y in x()]\ndef g(x=len(f)):\n    pass\n"),
            ("L5", "class A:\n    x = 1\n"), ("L6", "def f():\n    x = y = 1\n"),
            ("L6", "def f(xs):\n    for x in xs:\n        pass\n    else:\n        pass\n"), ("L7", "def f():\n    return 1 / 2\n"),
            ("L7", "def f(xs):\n    return any(x for x in xs)\n"), ("L7", "def f(xs):\n    return {x for x in xs}\n"),
            ("L7", "def f():\n    assert 1\n"), ("L7", "def f():\n    return 1.5\n"), ("L8", "def f(x):\n    return filter(x)\n"),
            ("L10", "def f():\n" + "    f()\n" * 40), ("L10", "X = 1\n" * 401), ("L10", "# " + "x" * 120 + "\n"),
            ("L12", "def f():\n    _x = 1\n"), ("L14", "# \u00e9\n"), ("L14", "X = 1\t\n"), ("L15", "X = 1\nX = 2\n"),
            ("L15", "def f(next):\n    pass\n"), ("L15", "X = [[1]]\n"), ("L17", "# a type\n"), ("L17", "def f(x):\n    x.open()\n"),
            ("L18", "class A:\n    def b(self):\n        self.b = 1\n"), ("L19", "def f():\n    try:\n        f()\n    except Exception:\n        f()\n"),
            ("L20", "def f(x, y):\n    return x is y\n"), ("L21", "def f(x: int):\n    return x\n"), ("L22", "def f(x):\n    return int(x, base=2)\n"),
            ("L7", "def f(x):\n    return f'{x.y}'\n"), ("L7", "def f(x):\n    return f'{x:d}'\n"),
            ("L23", "def f(x):\n    for y in x:\n        x.append(y)\n"), ("L23", "def f(x):\n    for y, z in enumerate(x):\n        x[y] = z\n"),
            ("L15", "X = [1]\ndef f():\n    X.append(1)\n"), ("L15", "X = {1: 2}\ndef f():\n    X[1] = 2\n"), ("L15", "X = [1]\ndef f():\n    return X\n"),
            ("L23", "def f(x):\n    y = zip(x, x)\n"), ("L24", "def f(x):\n    y = set(x)\n"), ("L25", "def f(x):\n    x.sort()\n"),
            ("L26", "class A:\n    def __init__(self):\n        self.items = 1\n"), ("L27", "X = '%d'\n"), ("L27", "def f(n):\n    return 2 ** n\n"),
            ("L28", "class A:\n    def __len__(self):\n        return 1\n"),
        ):
            self.assertIn(rule, faults_of(text), text)


if __name__ == "__main__":
    unittest.main()
