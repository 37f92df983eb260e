"""Holds the package's own files to the small part of Python that the program is written in.

It finds what can be seen in the form of the code; each fault is told with the rule's number and the line. The class
ThatFaultsAreFound hands in code that breaks a rule, so that a rule that is no longer looked at is noticed.
"""

import ast
import builtins
import pathlib
import re
import unittest

PACKAGE = pathlib.Path(__file__).resolve().parent.parent / "linkyard"

ERRORS = set("Exception ValueError TypeError KeyError IndexError LookupError ZeroDivisionError ArithmeticError "
             "OverflowError RuntimeError NotImplementedError AttributeError StopIteration".split())
# chr stands in L8's list, and is out by L27.
OWN_NAMES = ERRORS | set("len range enumerate zip min max sum abs sorted reversed int str bool list tuple dict set "
                         "frozenset isinstance ord repr any all divmod".split())
METHODS = set("append clear copy count endswith extend find get index insert isalnum isalpha isdigit islower isspace "
              "isupper items join keys ljust lower lstrip partition pop remove replace reverse rfind rjust rpartition "
              "rsplit rstrip setdefault split splitlines startswith strip update upper values zfill bit_length".split())
CHANGING = set("append clear extend insert pop remove reverse setdefault update".split())
DUNDERS = set("__init__ __eq__ __repr__ __str__ __len__".split())
NO_VALUES = set("items keys values pop update append clear extend insert remove reverse setdefault sort args encode "
                "format".split())
NO_ATTRIBUTES = set("format format_map mro register elements open input version_info with_traceback add_note".split())
NO_WORDS = re.compile(r"\b(type|typing|typing_extensions|enum|Enum|IntEnum|StrEnum|Flag|IntFlag|Generic|Protocol|ABC|"
                      r"ABCMeta|namedtuple|NamedTuple|TypedDict|TYPE_CHECKING|abstractmethod)\b|"
                      r"dataclass|overload|contextmanager")
NO_NAMES = set("attrgetter breakpoint builtins compile copyright credits delattr dir eval exec exit gc getattr globals "
               "hasattr help id importlib license locals methodcaller os quit setattr super type vars sys __name__ "
               "register mro elements open input version_info with_traceback add_note".split())
NO_FILES = re.compile(r"test|tests|testing|test_.*|site|conftest|sitecustomize|usercustomize")
NODES = (ast.Module, ast.Expr, ast.Assign, ast.AugAssign, ast.If, ast.While, ast.For, ast.Return, ast.Break,
         ast.Continue, ast.Pass, ast.Raise, ast.Try, ast.ExceptHandler, ast.FunctionDef, ast.ClassDef, ast.ImportFrom,
         ast.alias, ast.arguments, ast.arg, ast.Constant, ast.List, ast.Tuple, ast.Dict, ast.Set, ast.BinOp,
         ast.UnaryOp, ast.BoolOp, ast.Compare, ast.IfExp, ast.Call, ast.keyword, ast.Attribute, ast.Subscript,
         ast.Slice, ast.ListComp, ast.comprehension, ast.JoinedStr, ast.FormattedValue, ast.Lambda, ast.Name,
         ast.expr_context, ast.operator, ast.unaryop, ast.boolop, ast.cmpop)
WALKED = set("zip enumerate reversed range".split())
WALKERS = set("list tuple dict sorted sum any all enumerate zip min max join".split())
KEYWORDS = {"sorted": {"key", "reverse"}, "min": {"key", "default"}, "max": {"key", "default"}, "sum": {"start"},
            "enumerate": {"start"}, "zip": {"strict"}}


def called(node):
    """The name or the method that a call calls, "" of anything else."""
    if not isinstance(node, ast.Call):
        return ""
    return getattr(node.func, "id", getattr(node.func, "attr", ""))


def is_plain(node, defs):
    """A plain value of a file's top."""
    if isinstance(node, (ast.List, ast.Tuple)):
        return all(is_plain(item, defs) for item in node.elts)
    if isinstance(node, ast.Dict):
        return all(item is not None and is_plain(item, defs) for item in node.keys + node.values)
    if isinstance(node, ast.UnaryOp):
        return is_plain(node.operand, defs)
    return isinstance(node, ast.Constant) or (isinstance(node, ast.Name) and node.id in defs)


class Checker:
    """The faults of one file, as texts."""

    def __init__(self, source, file="some.py"):
        self.source = source
        self.file = file
        self.faults = []
        self.tree = ast.parse(source)
        self.parents = {child: node for node in ast.walk(self.tree) for child in ast.iter_child_nodes(node)}
        self.imported = [name.asname or name.name for node in self.tree.body if isinstance(node, ast.ImportFrom)
                         for name in node.names]
        self.classes = [node.name for node in self.tree.body if isinstance(node, ast.ClassDef)]
        self.defs = [node.name for node in self.tree.body if isinstance(node, ast.FunctionDef)]
        self.tables = [node.targets[0].id for node in self.tree.body if isinstance(node, ast.Assign)
                       and isinstance(node.targets[0], ast.Name) and isinstance(node.value, (ast.List, ast.Dict))]
        self.look()

    def fault(self, rule, node, words=""):
        self.faults.append("%s %s line %s %s" % (rule, self.file, getattr(node, "lineno", node), words))

    def need(self, good, rule, node, words=""):
        if not good:
            self.fault(rule, node, words)

    def look(self):
        self.look_at_text()
        self.look_at_top()
        for node in ast.walk(self.tree):
            self.need(isinstance(node, NODES), "L6", node, type(node).__name__)
            for kind in type(node).__mro__[:-2]:
                getattr(self, "see_" + kind.__name__, lambda found: None)(node)

    def look_at_text(self):
        rows = self.source.split("\n")
        self.need(len(rows) <= 401, "L10", len(rows))
        for number, row in enumerate(rows, start=1):
            self.need(len(row) <= 120, "L10", number)
            self.need(all(" " <= sign <= "~" for sign in row), "L14", number)
            self.need(not NO_WORDS.search(row), "L17", number)
            self.need(not re.search(r"\\[^nt\\'\"]", row.replace("\\\\", "")), "L27", number)

    def look_at_top(self):
        bound = list(self.imported)
        for place, node in enumerate(self.tree.body):
            if isinstance(node, (ast.FunctionDef, ast.ClassDef)):
                bound.append(node.name)
            elif isinstance(node, ast.Assign):
                self.need(is_plain(node.value, bound), "L3", node)
                bound.extend(getattr(target, "id", "") for target in node.targets)
                inner = [item for item in ast.walk(node.value) if isinstance(item, (ast.List, ast.Dict))]
                self.need(len(inner) - (node.value in inner) == 0, "L15", node)
            elif not isinstance(node, ast.ImportFrom):
                self.need(place == 0 and isinstance(node, ast.Expr) and isinstance(node.value, ast.Constant), "L3", node)
        for name in bound:
            self.need(bound.count(name) == 1, "L15", 1, name)

    def above(self, node, kinds):
        while node in self.parents:
            node = self.parents[node]
            if isinstance(node, kinds):
                return node
        return None

    def bind(self, name, node, local):
        self.need(re.fullmatch(r"[A-Za-z][A-Za-z0-9_]*", name) or name in DUNDERS, "L12", node, name)
        self.need(name not in NO_NAMES, "L17", node, name)
        taken = dir(builtins) + (self.classes + self.imported if local else [])
        self.need(name not in taken, "L15", node, name)

    def see_Import(self, node):
        self.fault("L2", node)

    def see_ImportFrom(self, node):
        self.need(node.module and node.module.startswith("linkyard.") and node.level == 0, "L2", node)
        self.need(isinstance(self.parents[node], ast.Module), "L2", node)
        self.need(all(name.name != "*" for name in node.names), "L2", node)

    def see_FunctionDef(self, node):
        method = isinstance(self.parents[node], ast.ClassDef)
        if not method:
            self.bind(node.name, node, False)
        self.need(not node.decorator_list, "L4", node)
        self.need(not node.returns, "L21", node)
        self.need(node.end_lineno - node.lineno < 40, "L10", node)
        if node.name == "__init__":
            returns = [item for item in ast.walk(node) if isinstance(item, ast.Return) and item.value]
            self.need(not returns, "L28", node)

    def see_arguments(self, node):
        self.need(not (node.vararg or node.kwarg or node.kwonlyargs or node.posonlyargs), "L4", self.parents[node])
        for default in node.defaults:
            self.need(isinstance(default, (ast.Constant, ast.UnaryOp)), "L4", default)

    def see_arg(self, node):
        self.bind(node.arg, node, True)
        self.need(not node.annotation, "L21", node)

    def see_ClassDef(self, node):
        self.bind(node.name, node, False)
        self.need(isinstance(self.parents[node], ast.Module), "L15", node)
        self.need(len(node.bases) <= 1 and not node.keywords and not node.decorator_list, "L5", node)
        methods = [item.name for item in node.body if isinstance(item, ast.FunctionDef)]
        self.need(len(set(methods)) == len(methods), "L18", node)
        for item in node.body:
            text = isinstance(item, ast.Expr) and isinstance(item.value, ast.Constant)
            self.need(isinstance(item, (ast.FunctionDef, ast.Pass)) or text, "L5", item)
        for name in methods:
            self.need(name in DUNDERS or not name.startswith("_"), "L5", node, name)
            known = any(hasattr(kind, name) for kind in (str, int, list, dict, set, bytes))
            self.need(name in DUNDERS | METHODS | {"add", "discard"} or not known, "L26", node, name)

    def see_Assign(self, node):
        self.need(len(node.targets) == 1, "L6", node)

    def see_For(self, node):
        self.need(not node.orelse, "L6", node)
        walked = {item.id for item in ast.walk(node.iter) if isinstance(item, ast.Name)}
        for item in ast.walk(ast.Module(body=node.body, type_ignores=[])):
            changed = item.func.value if isinstance(item, ast.Call) and isinstance(item.func, ast.Attribute) and \
                item.func.attr in CHANGING else None
            if isinstance(item, ast.Subscript) and isinstance(item.ctx, ast.Store):
                changed = item.value
            plain = isinstance(node.iter, ast.Name) or called(node.iter) in WALKED | {"items"}
            self.need(not (plain and getattr(changed, "id", None) in walked), "L23", item)

    def see_While(self, node):
        self.need(not node.orelse, "L6", node)

    def see_Try(self, node):
        self.need(not node.finalbody, "L6", node)

    def see_ExceptHandler(self, node):
        self.need(node.type, "L6", node)
        for item in ast.walk(node.type) if node.type else []:
            self.need(getattr(item, "id", "") not in ("Exception", "TypeError"), "L19", node)

    def see_Raise(self, node):
        self.need(isinstance(node.exc, ast.Call), "L19", node)

    def see_Expr(self, node):
        text = isinstance(node.value, ast.Constant) and isinstance(node.value.value, str)
        self.need(isinstance(node.value, ast.Call) or text, "L6", node)

    def see_Constant(self, node):
        self.need(node.value is None or isinstance(node.value, (bool, int, str)), "L7", node)
        self.need(not isinstance(node.value, str) or "%" not in node.value, "L27", node)

    def see_BinOp(self, node):
        self.need(not isinstance(node.op, (ast.Div, ast.MatMult)), "L7", node)
        self.need(not isinstance(node.op, ast.Pow) or isinstance(node.right, ast.Constant), "L27", node)

    def see_AugAssign(self, node):
        self.need(not isinstance(node.op, (ast.Div, ast.MatMult, ast.Pow)), "L7", node)

    def see_Compare(self, node):
        for operator, right in zip(node.ops, node.comparators):
            if isinstance(operator, (ast.Is, ast.IsNot)):
                kept = [item for item in (node.left, right) if isinstance(item, ast.Constant)]
                self.need(any(item.value in (None, True, False) for item in kept), "L20", node)

    def see_Set(self, node):
        self.need(self.above(node, (ast.FunctionDef, ast.Lambda)), "L7", node)
        beside = self.parents[node]
        self.need(isinstance(beside, (ast.Compare, ast.BinOp)) or called(beside) in ("sorted", "len"), "L24", node)

    def see_ListComp(self, node):
        self.need(len(node.generators) == 1 and len(node.generators[0].ifs) <= 1, "L7", node)

    def see_FormattedValue(self, node):
        self.need(isinstance(node.value, ast.Name) and not node.format_spec, "L7", node)
        self.need(node.conversion in (-1, ord("r")), "L7", node)

    def see_Name(self, node):
        if isinstance(node.ctx, ast.Store):
            self.bind(node.id, node, self.above(node, ast.FunctionDef))
        elif node.id in dir(builtins) or node.id in NO_NAMES:
            self.need(node.id in OWN_NAMES, "L8", node, node.id)
        elif node.id in self.tables:
            self.see_table(node)
        elif node.id in self.classes or node.id in self.imported and re.match("[A-Z].*[a-z]", node.id):
            self.see_class_name(node)

    def see_table(self, node):
        beside = self.parents[node]
        kept = isinstance(beside, (ast.Return, ast.Assign, ast.keyword, ast.List, ast.Tuple, ast.Dict, ast.IfExp))
        self.need(not kept, "L15", node, node.id)
        if isinstance(beside, ast.Call):
            own = OWN_NAMES - {"isinstance"}
            self.need(isinstance(beside.func, ast.Name) and beside.func.id in own, "L15", node, node.id)
        if isinstance(beside, ast.Attribute):
            self.need(beside.attr in METHODS - CHANGING, "L15", node, node.id)
        if isinstance(beside, ast.Subscript):
            self.need(isinstance(beside.ctx, ast.Load), "L15", node, node.id)

    def see_class_name(self, node):
        beside = self.parents[node]
        beside = self.parents[beside] if isinstance(beside, ast.Tuple) else beside
        made = isinstance(beside, ast.Call) and (beside.func == node or called(beside) == "isinstance")
        base_call = isinstance(beside, ast.Attribute) and beside.attr == "__init__"
        self.need(made or base_call or isinstance(beside, (ast.ClassDef, ast.ExceptHandler, ast.Raise)), "L18", node)

    def see_Attribute(self, node):
        self.need(node.attr not in NO_ATTRIBUTES, "L17", node, node.attr)
        self.need(re.match("[A-Za-z]", node.attr) or node.attr == "__init__", "L12", node, node.attr)
        if isinstance(node.ctx, ast.Store):
            self.need(node.attr not in NO_VALUES, "L26", node, node.attr)
            self.need(isinstance(node.value, ast.Name) and node.value.id not in self.classes, "L18", node)

    def see_Call(self, node):
        name = called(node)
        own = isinstance(node.func, ast.Name) and name in OWN_NAMES or \
            isinstance(node.func, ast.Attribute) and name in METHODS
        for word in node.keywords if own else []:
            self.need(word.arg in KEYWORDS.get(name, set()), "L22", node, word.arg)
        if isinstance(node.func, ast.Name) and name in WALKED or \
                isinstance(node.func, ast.Attribute) and name in ("items", "keys", "values"):
            self.see_walked(node)
        if isinstance(node.func, ast.Name) and name in ("set", "frozenset"):
            beside = self.parents[node]
            self.need(isinstance(beside, (ast.Compare, ast.BinOp)) or called(beside) in ("sorted", "len"), "L24", node)

    def see_walked(self, node):
        beside = self.parents[node]
        walked = isinstance(beside, (ast.For, ast.comprehension)) and beside.iter == node
        handed = isinstance(beside, ast.Call) and called(beside) in WALKERS
        self.need(walked or handed, "L23", node)


def package_files():
    return sorted(PACKAGE.glob("*.py"))


def trees():
    return {path.stem: ast.parse(path.read_text(encoding="utf-8")) for path in package_files()}


def draws(tree):
    return [node for node in tree.body if isinstance(node, ast.ImportFrom)]


def defined(tree):
    names = [node.name for node in tree.body if isinstance(node, (ast.FunctionDef, ast.ClassDef))]
    return names + [node.targets[0].id for node in tree.body if isinstance(node, ast.Assign)]


class ThePackage(unittest.TestCase):
    def test_each_file(self):
        self.assertGreater(len(package_files()), 1)
        for path in package_files():
            self.assertEqual(Checker(path.read_text(encoding="utf-8"), path.name).faults, [])

    def test_what_lies_in_the_folder(self):
        for path in PACKAGE.iterdir():
            if path.name == "__pycache__":
                continue
            self.assertTrue(path.is_file() and re.fullmatch("[a-z][a-z0-9_]*[.]py|__init__[.]py", path.name), path)
            self.assertFalse(NO_FILES.fullmatch(path.stem) or path.stem in dir(builtins), path)
            self.assertFalse(NO_WORDS.search(path.stem), path)

    def test_names_are_drawn_from_the_file_that_defines_them(self):
        files = trees()
        for tree in files.values():
            for node in draws(tree):
                for name in node.names:
                    self.assertIn(name.name, defined(files[node.module.split(".")[1]]))

    def test_no_two_files_draw_from_one_another(self):
        drawn = {stem: {node.module.split(".")[1] for node in draws(tree)} for stem, tree in trees().items()}
        while drawn:
            free = [stem for stem in drawn if not drawn[stem] & set(drawn)]
            self.assertTrue(free, drawn)
            drawn = {stem: drawn[stem] for stem in drawn if stem not in free}

    def test_the_opening_file_binds_no_name_of_a_file(self):
        self.assertEqual([node for node in trees()["__init__"].body if not isinstance(node, ast.Expr)], [])

    def test_no_name_is_a_method_here_and_a_value_there(self):
        nodes = [node for tree in trees().values() for node in ast.walk(tree)]
        methods = {item.name for node in nodes if isinstance(node, ast.ClassDef) for item in node.body
                   if isinstance(item, ast.FunctionDef)}
        values = {node.attr for node in nodes if isinstance(node, ast.Attribute) and isinstance(node.ctx, ast.Store)}
        self.assertEqual(methods & values, set())
        called_so = {node.func.attr for node in nodes if isinstance(node, ast.Call)
                     and isinstance(node.func, ast.Attribute)}
        self.assertEqual(called_so - methods - METHODS - {"__init__"}, set())


BROKEN = [
    ("L2", "import os"), ("L2", "from os import path"), ("L2", "from .words import shown"),
    ("L2", "from linkyard.words import *"), ("L2", "def f():\n    from linkyard.words import shown"),
    ("L3", "x = len([1])"), ("L3", "if True:\n    x = 1"), ("L3", "for x in [1]:\n    pass"),
    ("L4", "def f(*a):\n    return a"), ("L4", "def f(**a):\n    return a"), ("L4", "def f(a=[]):\n    return a"),
    ("L4", "def g(f):\n    return f\n\n\n@g\ndef f():\n    return 1"),
    ("L5", "class A:\n    x = 1"), ("L5", "class A:\n    def __add__(self, b):\n        return b"),
    ("L6", "def f():\n    assert True"), ("L6", "def f(a):\n    del a"), ("L6", "def f():\n    a = b = 1"),
    ("L6", "def f():\n    yield 1"), ("L6", "def f(a):\n    for b in a:\n        pass\n    else:\n        pass"),
    ("L6", "def f():\n    try:\n        f()\n    except:\n        pass"), ("L6", "def f(a):\n    return {b for b in a}"),
    ("L6", "def f(a):\n    return any(b for b in a)"), ("L6", "def f(a):\n    return f(*a)"),
    ("L7", "x = 1.5"), ("L7", "x = b''"), ("L7", "def f(a):\n    return a / 2"), ("L7", "def f(a):\n    a /= 2"),
    ("L7", "def f(a):\n    return [c for b in a for c in b]"), ("L7", "def f(a):\n    return f'{a:02}'"),
    ("L8", "def f(a):\n    return hash(a)"), ("L8", "def f(a):\n    return getattr(a, 'b')"),
    ("L8", "def f():\n    print(1)"), ("L8", "def f(a):\n    return chr(a)"), ("L8", "def f(a):\n    return map(f, a)"),
    ("L10", "def f():\n" + "    f()\n" * 40), ("L10", "x = 1  # " + "w" * 120), ("L10", "# row\n" * 401),
    ("L12", "x_ = 1\n_x = 2"), ("L12", "def f(a):\n    for _ in a:\n        pass"), ("L14", "x = '\u00e9'"),
    ("L14", "def f():\n\treturn 1"), ("L15", "x = 1\nx = 2"), ("L15", "x = [[1]]"),
    ("L15", "def f(a):\n    next = a\n    return next"), ("L15", "def f(min):\n    return min"),
    ("L15", "x = [1]\n\n\ndef f():\n    return x"), ("L15", "x = [1]\n\n\ndef f():\n    x.append(2)"),
    ("L15", "x = [1]\n\n\ndef f():\n    x[0] = 2"), ("L15", "x = [1]\n\n\ndef f():\n    f(x)"),
    ("L17", "# the type of it"), ("L17", "def f(a):\n    a.register()"), ("L17", "x = 'a Protocol'"),
    ("L18", "from linkyard.parts import Part\n\n\ndef f():\n    return [Part]"),
    ("L18", "class A:\n    pass\n\n\nx = [A]"), ("L18", "class A:\n    pass\n\n\ndef f():\n    A.b = 1"),
    ("L19", "def f():\n    try:\n        f()\n    except Exception:\n        pass"),
    ("L19", "def f():\n    raise ValueError"), ("L20", "def f(a, b):\n    return a is b"),
    ("L21", "def f(a: int):\n    return a"), ("L22", "def f(a):\n    return a.split(sep='b')"),
    ("L23", "def f():\n    a = range(3)\n    return a"), ("L23", "def f(a):\n    return a.items()"),
    ("L23", "def f(a):\n    for b in a:\n        a.append(b)"), ("L23", "def f(a):\n    for b in a:\n        a[b] = 1"),
    ("L24", "def f(a):\n    b = set(a)\n    return b"), ("L24", "def f():\n    return {1, 2}"),
    ("L26", "class A:\n    def sort(self):\n        return 1"),
    ("L26", "class A:\n    def __init__(self):\n        self.args = 1"),
    ("L27", "x = 'a % b'"), ("L27", "def f(a):\n    return 2 ** a"), ("L27", "x = '\\x41'"),
    ("L28", "class A:\n    def __init__(self):\n        return None"),
]


class ThatFaultsAreFound(unittest.TestCase):
    def test_each_broken_rule_is_told(self):
        for rule, source in BROKEN:
            with self.subTest(rule=rule, source=source):
                rules = [fault.split()[0] for fault in Checker(source).faults]
                self.assertIn(rule, rules)

    def test_good_code_is_let_by(self):
        source = ('"""Words."""\n\nfrom linkyard.words import shown\n\nTABLE = {"a": (1, 2)}\n\n\n'
                  'class A(ValueError):\n    def __init__(self, b):\n        self.b = b\n\n\n'
                  'def f(a, b=0):\n    if a not in TABLE or a is None:\n        raise A(f"{a!r}")\n'
                  '    c = [d * 2 for d in sorted(set(TABLE[a])) if d > b]\n'
                  '    for d, e in enumerate(c):\n        c = c + [d ^ e]\n    return shown(c)\n')
        self.assertEqual(Checker(source).faults, [])


if __name__ == "__main__":
    unittest.main()
