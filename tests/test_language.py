"""Holds the package's files to the rules L1 to L28 that a look at the syntax can tell."""
import ast
import builtins
import pathlib
import re
import unittest

PACKAGE = pathlib.Path(__file__).resolve().parent.parent / "changehall"

NODES = """Module Import ImportFrom alias FunctionDef arguments arg ClassDef Assign AugAssign If While For Return Break
Continue Pass Raise Try ExceptHandler Expr Constant Name Load Store List Tuple Dict Set BinOp Add Sub Mult FloorDiv Mod
Pow BitAnd BitOr BitXor LShift RShift UnaryOp USub UAdd Invert Not Compare Eq NotEq Lt LtE Gt GtE Is IsNot In NotIn
BoolOp And Or IfExp Call keyword Attribute Subscript Slice ListComp comprehension Lambda JoinedStr
FormattedValue""".split()
OWN = """len range enumerate zip min max sum abs sorted reversed int str bool list tuple dict set frozenset isinstance ord
repr any all divmod Exception ValueError TypeError KeyError IndexError LookupError ZeroDivisionError ArithmeticError
OverflowError RuntimeError NotImplementedError AttributeError StopIteration""".split()
METHODS = """append clear copy count endswith extend find get index insert isalnum isalpha isdigit islower isspace isupper
items join keys ljust lower lstrip partition pop remove replace reverse rfind rjust rpartition rsplit rstrip setdefault
split splitlines startswith strip update upper values zfill bit_length""".split()
KEYWORDS = {"sorted": ["key", "reverse"], "min": ["key", "default"], "max": ["key", "default"], "sum": ["start"],
            "enumerate": ["start"], "zip": ["strict"]}
DUNDERS = ["__init__", "__eq__", "__repr__", "__str__", "__len__"]
UNUSED = """register mro elements open input version_info with_traceback add_note attrgetter breakpoint builtins compile
copyright credits delattr dir eval exec exit gc getattr globals hasattr help id importlib license locals methodcaller os
quit setattr super type vars sys chr print format format_map""".split()
WORDS = re.compile(r"\b(type|typing|typing_extensions|enum|Enum|IntEnum|StrEnum|Flag|IntFlag|Generic|Protocol|ABC|ABCMeta"
                   r"|namedtuple|NamedTuple|TypedDict|TYPE_CHECKING|abstractmethod)\b|dataclass|overload|contextmanager")


def sign_faults(text):
    if [sign for sign in text if sign != "\n" and not " " <= sign <= "~"]:
        yield "L14 sign"
    if len(text.splitlines()) > 400 or [line for line in text.splitlines() if len(line) > 120]:
        yield "L10 size"
    if WORDS.search(text):
        yield "L17 word"


def bound_names(tree):
    for node in ast.walk(tree):
        if isinstance(node, ast.Name) and isinstance(node.ctx, ast.Store):
            yield node.id
        elif isinstance(node, (ast.FunctionDef, ast.ClassDef)):
            yield node.name
        elif isinstance(node, ast.arg):
            yield node.arg
        elif isinstance(node, ast.alias):
            yield node.asname or node.name
        elif isinstance(node, ast.ExceptHandler) and node.name:
            yield node.name


def name_faults(tree):
    methods = {node.name for holder in ast.walk(tree) if isinstance(holder, ast.ClassDef) for node in holder.body
               if isinstance(node, ast.FunctionDef)}
    for name in bound_names(tree):
        if name in DUNDERS and name in methods:
            continue
        if not re.fullmatch("[A-Za-z][A-Za-z0-9_]*", name):
            yield "L12 name " + name
        if name in UNUSED or hasattr(builtins, name) and name not in methods:
            yield "L15 name " + name
    tops = [node.name for node in tree.body if isinstance(node, (ast.FunctionDef, ast.ClassDef))]
    imported = [alias.name for node in tree.body if isinstance(node, ast.ImportFrom) for alias in node.names]
    if len(set(tops + imported)) != len(tops + imported):
        yield "L15 bound twice"
    classes = [node.name for node in tree.body if isinstance(node, ast.ClassDef)]
    for node in ast.walk(tree):
        local = node.arg if isinstance(node, ast.arg) else None
        if isinstance(node, ast.Name) and isinstance(node.ctx, ast.Store):
            local = node.id
        if local in classes + imported:
            yield "L15 local " + local
        if isinstance(node, ast.Name) and hasattr(builtins, node.id) and node.id not in OWN:
            yield "L8 name " + node.id


def import_faults(tree):
    for node in ast.walk(tree):
        if isinstance(node, ast.Import):
            yield "L16 import"
        if isinstance(node, ast.ImportFrom):
            ahead = tree.body[:tree.body.index(node)] if node in tree.body else None
            if ahead is None or [one for one in ahead if not isinstance(one, (ast.Expr, ast.ImportFrom))]:
                yield "L2 not at the top"
            if node.level or not (node.module or "").startswith("changehall.") or node.names[0].name == "*":
                yield "L2 import"


def top_faults(tree):
    kinds = (ast.Expr, ast.ImportFrom, ast.FunctionDef, ast.ClassDef, ast.Assign)
    for node in tree.body:
        docstring = node == tree.body[0] and isinstance(getattr(node, "value", None), ast.Constant)
        if not isinstance(node, kinds) or isinstance(node, ast.Expr) and not docstring:
            yield "L3 top of the file"
    for node in ast.walk(tree):
        if isinstance(node, ast.ClassDef):
            if node not in tree.body or node.decorator_list or node.keywords or len(node.bases) > 1:
                yield "L5 class"
            if [one for one in node.body if not isinstance(one, (ast.FunctionDef, ast.Pass))]:
                yield "L5 class body"


def def_faults(node):
    if node.end_lineno - node.lineno >= 40:
        yield "L10 long def"
    if node.decorator_list:
        yield "L4 decorator"
    given = node.args
    if given.vararg or given.kwarg or given.kwonlyargs or given.posonlyargs:
        yield "L4 parameters"
    if node.returns or [one for one in given.args if one.annotation]:
        yield "L21 annotation"


def call_faults(node, methods):
    name = node.func.id if isinstance(node.func, ast.Name) else None
    if isinstance(node.func, ast.Attribute) and node.func.attr not in METHODS + methods:
        yield "L25 method " + node.func.attr
    if name in OWN and [one for one in node.keywords if one.arg not in KEYWORDS.get(name, [])]:
        yield "L22 keyword"


def node_faults(node, methods):
    if type(node).__name__ not in NODES:
        yield "L6, L7 " + type(node).__name__
    if isinstance(node, ast.FunctionDef):
        yield from def_faults(node)
    if isinstance(node, ast.Call):
        yield from call_faults(node, methods)
    if isinstance(node, ast.Assign) and len(node.targets) > 1 or getattr(node, "finalbody", None):
        yield "L6 statement"
    if isinstance(node, (ast.For, ast.While)) and node.orelse:
        yield "L6 else behind a loop"
    if isinstance(node, ast.Expr) and not isinstance(node.value, (ast.Call, ast.Constant)):
        yield "L6 expression by itself"
    if isinstance(node, ast.Constant) and not isinstance(node.value, (int, str, bool, type(None))):
        yield "L7 value"
    if isinstance(node, ast.ListComp) and (len(node.generators) > 1 or len(node.generators[0].ifs) > 1):
        yield "L7 comprehension"
    if isinstance(node, ast.BinOp) and isinstance(node.op, ast.Pow) and not isinstance(node.right, ast.Constant):
        yield "L27 power"
    if isinstance(node, ast.Compare) and [op for op in node.ops if isinstance(op, (ast.Is, ast.IsNot))]:
        if not [one for one in [node.left] + node.comparators
                if isinstance(one, ast.Constant) and isinstance(one.value, (bool, type(None)))]:
            yield "L20 is"
    if isinstance(node, ast.ExceptHandler):
        if not isinstance(node.type, ast.Name) or node.type.id in ("Exception", "TypeError"):
            yield "L19 except"
    if isinstance(node, ast.Attribute) and node.attr in UNUSED:
        yield "L17 attribute " + node.attr


# L23: what may hold a walk, besides a for, a comprehension and the join of a text.
WALKERS = ["list", "tuple", "dict", "sorted", "sum", "any", "all", "enumerate", "zip"]


def is_walk(node):
    if not isinstance(node, ast.Call):
        return False
    if isinstance(node.func, ast.Name):
        return node.func.id in ("zip", "enumerate", "reversed", "range")
    return isinstance(node.func, ast.Attribute) and node.func.attr in ("items", "keys", "values")


def walk_faults(tree):
    on_the_spot = []
    for node in ast.walk(tree):
        if isinstance(node, (ast.For, ast.comprehension)):
            on_the_spot.append(node.iter)
        elif isinstance(node, ast.Call) and isinstance(node.func, ast.Name):
            if node.func.id in WALKERS or node.func.id in ("min", "max") and len(node.args) == 1:
                on_the_spot.extend(node.args[:1])
        elif isinstance(node, ast.Call) and isinstance(node.func, ast.Attribute) and node.func.attr == "join":
            on_the_spot.extend(node.args)
    for node in ast.walk(tree):
        if is_walk(node) and node not in on_the_spot:
            yield "L23 walk that is kept"


CHANGES = ["append", "clear", "extend", "insert", "pop", "remove", "reverse", "setdefault", "update"]


def names_walked(node):
    if is_walk(node) and isinstance(node.func, ast.Attribute):
        return names_walked(node.func.value)
    if is_walk(node) and node.func.id != "range":
        return [name for one in node.args for name in names_walked(one)]
    return [node.id] if isinstance(node, ast.Name) else []


def changed_names(loop):
    for node in ast.walk(loop):
        if isinstance(node, ast.Subscript) and isinstance(node.ctx, ast.Store) and isinstance(node.value, ast.Name):
            yield node.value.id
        if isinstance(node, ast.Call) and isinstance(node.func, ast.Attribute) and node.func.attr in CHANGES:
            if isinstance(node.func.value, ast.Name):
                yield node.func.value.id


def loop_faults(tree):
    for node in ast.walk(tree):
        if isinstance(node, ast.For) and set(names_walked(node.iter)) & set(changed_names(node)):
            yield "L23 changed while it is walked"


def faults(text, methods):
    tree = ast.parse(text)
    found = list(sign_faults(text)) + list(name_faults(tree)) + list(import_faults(tree)) + list(top_faults(tree))
    found.extend(list(walk_faults(tree)) + list(loop_faults(tree)))
    for node in ast.walk(tree):
        found.extend(node_faults(node, methods))
    return found


def package_texts():
    return {path.stem: path.read_text(encoding="utf-8") for path in sorted(PACKAGE.glob("*.py"))}


def own_methods(texts):
    return [node.name for text in texts.values() for holder in ast.walk(ast.parse(text))
            if isinstance(holder, ast.ClassDef) for node in holder.body if isinstance(node, ast.FunctionDef)]


def drawn_from(texts):
    return {stem: [(node.module.removeprefix("changehall."), alias.name) for node in ast.parse(text).body
                   if isinstance(node, ast.ImportFrom) for alias in node.names] for stem, text in texts.items()}


class LanguageTest(unittest.TestCase):
    def test_files_of_the_folder(self):
        names = [path.name for path in PACKAGE.iterdir() if path.name != "__pycache__"]
        self.assertIn("__init__.py", names)
        for name in names:
            self.assertRegex(name, r"\A(__init__|__main__|[a-z][a-z0-9_]*)\.py\Z")
            if not name.startswith("__"):
                self.assertFalse(hasattr(builtins, name.removesuffix(".py")), name)
            self.assertNotRegex(name, r"\A(tests?|testing|test_.*|site|conftest|sitecustomize|usercustomize)\.py\Z")

    def test_the_package_has_no_faults(self):
        texts = package_texts()
        methods = own_methods(texts)
        for stem, text in texts.items():
            with self.subTest(file=stem):
                self.assertEqual(faults(text, methods), [])

    def test_names_are_drawn_from_where_they_are_defined(self):
        texts = package_texts()
        for stem, drawn in drawn_from(texts).items():
            for source, name in drawn:
                with self.subTest(file=stem, source=source, name=name):
                    top = ast.parse(texts[source]).body
                    defined = [node.name for node in top if isinstance(node, (ast.FunctionDef, ast.ClassDef))]
                    defined += [node.targets[0].id for node in top if isinstance(node, ast.Assign)]
                    self.assertIn(name, defined)

    def test_no_files_draw_from_one_another(self):
        left = {stem: {source for source, name in drawn} for stem, drawn in drawn_from(package_texts()).items()}
        while left:
            free = [stem for stem, sources in left.items() if not sources & set(left)]
            self.assertTrue(free, f"drawn in a ring: {sorted(left)}")
            left = {stem: sources for stem, sources in left.items() if stem not in free}

    def test_faults_are_seen(self):
        wrong = ["x = 1.5", "def f():\n    return 1 / 2", "import math", "from .rows import added", "print(1)",
                 "def f(*many):\n    pass", "def f(a):\n    assert a", "def f(a, b):\n    return a is b",
                 "def f(n):\n    return 2 ** n", "def f(a):\n    return {x for x in a}", "def sum(a):\n    return a",
                 "def f(a):\n    return [x for y in a for x in y]", "def f(a):\n    a.sort()", "# a type of row",
                 "def f(id):\n    return id", "def f(a):\n    x = y = a", "def f(a: int):\n    return a",
                 "class A:\n    x = 1", "def f(a):\n    try:\n        a()\n    except Exception:\n        pass",
                 "def f(a):\n    for x in a:\n        pass\n    else:\n        pass",
                 "def f(a):\n    return getattr(a, 'b')", "def f(a):\n    return a is 1",
                 "def f(_a):\n    return 1", "def f(a):\n    return all(x for x in a)", "x = 'caf\u00e9'", "x = 1\t",
                 "def f(a):\n" + "    a()\n" * 40, "x = '" + "a" * 120 + "'", "def f(a):\n    yield a",
                 "def f(a):\n    return sorted(a, strict=True)", "def f(a):\n    return isinstance(a, object)",
                 "def f(a):\n    return reversed(range(a))", "def f(a):\n    b = zip(a, a)\n    return list(b)",
                 "def f(a):\n    for x in a:\n        a.append(x)", "def f(a):\n    for k, x in enumerate(a):\n        a[k] = x",
                 "class A:\n    pass\ndef f(A):\n    return A", "def f():\n    pass\ndef f():\n    pass"]
        for text in wrong:
            with self.subTest(text=text):
                self.assertNotEqual(faults(text, []), [])


if __name__ == "__main__":
    unittest.main()
