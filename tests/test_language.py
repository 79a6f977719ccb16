"""The package keeps to ../shared/LANGUAGE.md, as far as a reading of its files can tell.

`faults(folder)` is a list of texts, one for each place that breaks a rule, with the rule's number.
"""

import ast
import builtins
import os
import re
import tempfile
import unittest

import everguard

PACKAGE = "everguard"

OWN_NAMES = set(
    "len range enumerate zip min max sum abs sorted reversed int str bool list tuple dict set frozenset isinstance ord "
    "repr any all divmod Exception ValueError TypeError KeyError IndexError LookupError ZeroDivisionError "
    "ArithmeticError OverflowError RuntimeError NotImplementedError AttributeError StopIteration".split()
)
DUNDERS = {"__init__", "__eq__", "__repr__", "__str__", "__len__"}
STATEMENTS = (
    ast.Assign, ast.AugAssign, ast.If, ast.While, ast.For, ast.Return, ast.Break, ast.Continue, ast.Pass, ast.Raise,
    ast.Try, ast.Expr, ast.FunctionDef, ast.ClassDef, ast.ImportFrom,
)
EXPRESSIONS = (
    ast.Constant, ast.List, ast.Tuple, ast.Dict, ast.BinOp, ast.UnaryOp, ast.BoolOp, ast.Compare, ast.IfExp, ast.Call,
    ast.Attribute, ast.Subscript, ast.Slice, ast.Name, ast.ListComp, ast.JoinedStr, ast.FormattedValue, ast.Lambda,
    ast.Set,
)
METHODS = set(
    "append clear copy count endswith extend find get index insert isalnum isalpha isdigit islower isspace isupper items "
    "join keys ljust lower lstrip partition pop remove replace reverse rfind rjust rpartition rsplit rstrip setdefault "
    "split splitlines startswith strip update upper values zfill bit_length".split()
)
CHANGING = {"append", "clear", "extend", "insert", "pop", "remove", "reverse", "setdefault", "update"}
VALUES_OUT = CHANGING | {"items", "keys", "values", "sort", "args", "encode", "format"}
VALUES_FREE = {"count", "index", "title", "find", "get", "join", "lower", "upper", "split", "strip", "copy", "add"}
NOWHERE = {"register", "mro", "elements", "open", "input", "version_info", "with_traceback", "add_note"}
NOT_NAMES = set(
    "attrgetter breakpoint builtins compile copyright credits delattr dir eval exec exit gc getattr globals hasattr help "
    "id importlib license locals methodcaller os quit setattr super type vars sys __name__ chr print".split()
)
WORDS = re.compile(
    r"\b(type|typing|typing_extensions|enum|Enum|IntEnum|StrEnum|Flag|IntFlag|Generic|Protocol|ABC|ABCMeta|namedtuple"
    r"|NamedTuple|TypedDict|TYPE_CHECKING|abstractmethod)\b|dataclass|overload|contextmanager"
)
FILE_NAMES_OUT = {"test", "tests", "testing", "site", "conftest", "sitecustomize", "usercustomize"} | set(dir(builtins))
PYTHONS_OWN = set()
for kind in (str, int, list, dict, set, bytes, tuple, frozenset):
    PYTHONS_OWN |= set(dir(kind))
WALKED = {"zip", "enumerate", "reversed", "range"}
WALKED_METHODS = {"items", "keys", "values"}
WALKERS = {"list", "tuple", "dict", "sorted", "sum", "any", "all", "enumerate", "zip", "min", "max"}
KEYWORDS = {
    "sorted": {"key", "reverse"}, "min": {"key", "default"}, "max": {"key", "default"}, "sum": {"start"},
    "enumerate": {"start"}, "zip": {"strict"},
}

WRONG = {
    "L2": "import os\n",
    "L3": "for k in range(3):\n    pass\n",
    "L4": "def f(*parts):\n    return parts\n",
    "L5": "class A:\n    b = 3\n",
    "L6": "def f(x):\n    a, b = x\n    return a\n",
    "L7": "def f(xs):\n    return any(x for x in xs)\n",
    "L8": "def f(x):\n    return iter(x)\n",
    "L10": "def f(x):\n" + "    x += 1\n" * 41 + "    return x\n",
    "L12": "def f(x):\n    _y = x\n    return _y\n",
    "L14": "# \u00e4\n",
    "L15": "def f(x):\n    next = x\n    return next\n",
    "L17": "def f(x):\n    # the " + "ty" + "pe\n    return x\n",
    "L18": "class A:\n    def place(self):\n        return 1\n\n\nclass B:\n    def __init__(self):\n        self.place = 1\n",
    "L20": "def f(x):\n    return x is x\n",
    "L22": "def f(x):\n    return int(x, base=2)\n",
    "L23": "def f(xs):\n    for x in xs:\n        xs.append(x)\n",
    "L24": "def f(xs):\n    ys = set(xs)\n    return 1 in ys\n",
    "L25": "def f(x):\n    return x.swapcase()\n",
    "L26": "class A:\n    def __init__(self):\n        self.items = 1\n",
    "L27": "def f(n):\n    return 2 ** n\n",
    "L28": "class A:\n    def __init__(self):\n        return None\n",
}


def faults(folder):
    """All places of the package that break a rule."""
    found = []
    trees = {}
    for name in sorted(os.listdir(folder)):
        if name == "__pycache__":
            continue
        stem = name[:-3]
        if not re.fullmatch(r"[a-z0-9_]+\.py", name) or stem in FILE_NAMES_OUT or stem.startswith("test_"):
            found.append(f"{name}: L1, L14: no plain file of the package")
            continue
        with open(os.path.join(folder, name), encoding="utf-8", newline="") as file:
            told = file.read()
        found += [f"{name}: {fault}" for fault in text_faults(told)]
        trees[stem] = ast.parse(told)
    if "__init__" not in trees:
        found.append("L14: no __init__.py")
    methods, values = class_names(trees)
    found += [f"L18: {name} is a method and a value" for name in sorted(methods & values)]
    found += cycles(trees)
    for stem, tree in trees.items():
        found += [f"{stem}.py: {fault}" for fault in FileRules(tree, trees, methods).faults()]
    return found


def text_faults(told):
    """Faults that the signs and rows show."""
    found = []
    for place, row in enumerate(told.split("\n"), start=1):
        if len(row) > 120:
            found.append(f"{place}: L10: a row of {len(row)} signs")
        if any(not " " <= sign <= "~" for sign in row):
            found.append(f"{place}: L14: another sign")
        if WORDS.search(row):
            found.append(f"{place}: L17: the word {WORDS.search(row).group()}")
    if told.count("\n") > 400:
        found.append("L10: more than 400 rows")
    return found


def class_names(trees):
    """The names of all methods, and of all values of objects."""
    methods, values = set(), set()
    for tree in trees.values():
        for node in ast.walk(tree):
            if isinstance(node, ast.ClassDef):
                methods |= {part.name for part in node.body if isinstance(part, ast.FunctionDef)} - DUNDERS
            if isinstance(node, ast.Attribute) and isinstance(node.ctx, ast.Store):
                values.add(node.attr)
    return methods, values


def drawn_from(tree):
    return [node.module.split(".")[-1] for node in tree.body if isinstance(node, ast.ImportFrom) and "." in node.module]


def cycles(trees):
    """Files that draw from one another."""
    reached = {stem: set(drawn_from(tree)) for stem, tree in trees.items()}
    for _ in trees:
        for stem in reached:
            reached[stem] |= {far for near in reached[stem] for far in reached.get(near, ())}
    return [f"{stem}.py: L16: draws from itself" for stem in reached if stem in reached[stem]]


class FileRules:
    """The rules that one file's tree can be held to."""

    def __init__(self, tree, trees, methods):
        self.tree = tree
        self.trees = trees
        self.methods = methods
        self.found = []
        self.parents = {}
        for node in ast.walk(tree):
            for child in ast.iter_child_nodes(node):
                self.parents[child] = node
        self.classes = {node.name for node in tree.body if isinstance(node, ast.ClassDef)}
        self.imports = {a.asname or a.name for node in tree.body if isinstance(node, ast.ImportFrom) for a in node.names}
        self.defs = {node.name for node in tree.body if isinstance(node, ast.FunctionDef)}
        self.plain = [
            target.id for node in tree.body if isinstance(node, ast.Assign) for target in node.targets
            if isinstance(target, ast.Name)
        ]

    def fault(self, node, words):
        self.found.append(f"{getattr(node, 'lineno', 0)}: {words}")

    def faults(self):
        self.top()
        for node in ast.walk(self.tree):
            if isinstance(node, ast.stmt) and not isinstance(node, STATEMENTS):
                self.fault(node, f"L6: {type(node).__name__}")
            if isinstance(node, ast.expr) and not isinstance(node, EXPRESSIONS):
                self.fault(node, f"L7: {type(node).__name__}")
            look = getattr(self, "look_" + type(node).__name__.lower(), None)
            if look is not None:
                look(node)
        return self.found

    def top(self):
        bound = list(self.classes) + list(self.imports) + list(self.defs) + self.plain
        for name in {name for name in bound if bound.count(name) > 1}:
            self.fault(self.tree, f"L15: {name} is bound twice")
        for place, node in enumerate(self.tree.body):
            if isinstance(node, ast.Expr):
                if place or not isinstance(node.value, ast.Constant):
                    self.fault(node, "L3: no docstring")
            elif not isinstance(node, (ast.ImportFrom, ast.FunctionDef, ast.ClassDef, ast.Assign)):
                self.fault(node, "L3: not for a file's top")
            if isinstance(node, ast.Assign):
                self.look_top_value(node)

    def look_top_value(self, node):
        inner = list(ast.walk(node.value))[1:]
        if any(isinstance(part, (ast.List, ast.Dict)) for part in inner):
            self.fault(node, "L15: a list or dict within a value of the top")
        if any(isinstance(part, (ast.Call, ast.ListComp, ast.Set, ast.BinOp)) for part in ast.walk(node.value)):
            self.fault(node, "L3: no plain value")

    def look_import(self, node):
        self.fault(node, "L2, L16: import of a file")

    def look_importfrom(self, node):
        if node.module == "__future__":
            return
        stem = node.module.split(".")[-1]
        if node.level or node.module != f"{PACKAGE}.{stem}" or stem not in self.trees or stem == "__main__":
            self.fault(node, f"L2: {node.module}")
            return
        if node not in self.tree.body:
            self.fault(node, "L2: not at the top")
        there = self.trees[stem].body
        defined = {part.name for part in there if isinstance(part, (ast.FunctionDef, ast.ClassDef))}
        defined |= {t.id for part in there if isinstance(part, ast.Assign) for t in part.targets}
        for alias in node.names:
            if alias.name not in defined:
                self.fault(node, f"L16: {alias.name} is not defined in {stem}")

    def look_functiondef(self, node):
        if node.decorator_list:
            self.fault(node, "L4: a decorator")
        if node.end_lineno - node.lineno + 1 > 40:
            self.fault(node, f"L10: {node.name} has more than 40 rows")
        within = isinstance(self.parents[node], ast.ClassDef)
        self.named(node, node.name, method=within)
        self.parameters_of(node)
        if node.returns is not None:
            self.fault(node, "L21: an annotation")
        if within and node.name == "__init__":
            if any(isinstance(part, ast.Return) and part.value is not None for part in ast.walk(node)):
                self.fault(node, "L28: __init__ gives something back")

    def parameters_of(self, node):
        given = node.args
        if given.vararg or given.kwarg or given.kwonlyargs or given.posonlyargs:
            self.fault(node, "L4: no plain parameters")
        for part in given.args:
            self.local(node, part.arg)
            if part.annotation is not None:
                self.fault(node, "L21: an annotation")
        if any(not isinstance(value, ast.Constant) for value in given.defaults):
            self.fault(node, "L4: a default that is no plain value")

    def look_lambda(self, node):
        self.parameters_of(node)

    def look_classdef(self, node):
        if node not in self.tree.body or node.decorator_list or node.keywords or len(node.bases) > 1:
            self.fault(node, "L5, L15: no plain class")
        seen = set()
        for place, part in enumerate(node.body):
            docstring = place == 0 and isinstance(part, ast.Expr) and isinstance(part.value, ast.Constant)
            if not docstring and not isinstance(part, (ast.FunctionDef, ast.Pass)):
                self.fault(part, "L5: a value in a class")
            if isinstance(part, ast.FunctionDef):
                if part.name in seen:
                    self.fault(part, f"L18: {part.name} stands twice")
                seen.add(part.name)

    def named(self, node, name, method=False):
        if name.startswith("_") and not (method and name in DUNDERS):
            self.fault(node, f"L12: {name}")
        if not re.fullmatch(r"[A-Za-z0-9_]+", name):
            self.fault(node, f"L12: {name}")
        if name in NOWHERE or (not method and name in NOT_NAMES):
            self.fault(node, f"L17: {name}")
        if method and name not in DUNDERS and name in PYTHONS_OWN and name not in METHODS | {"add", "discard"}:
            self.fault(node, f"L26: the method {name}")

    def local(self, node, name):
        self.named(node, name)
        if name in self.classes or name in self.imports or name in dir(builtins):
            self.fault(node, f"L15: a local called {name}")

    def look_name(self, node):
        if isinstance(node.ctx, ast.Store):
            if isinstance(self.parents[node], ast.Assign) and self.parents[node] in self.tree.body:
                self.named(node, node.id)
            else:
                self.local(node, node.id)
                if node.id in self.plain:
                    self.fault(node, f"L15: {node.id} is a name of the top")
            return
        if node.id in NOT_NAMES or node.id in NOWHERE or node.id.startswith("_"):
            self.fault(node, f"L17: {node.id}")
        elif node.id in dir(builtins) and node.id not in OWN_NAMES:
            self.fault(node, f"L8: {node.id}")
        elif node.id in OWN_NAMES and node.id in dir(builtins) and node.id[0].islower():
            above = self.parents[node]
            called = isinstance(above, ast.Call) and above.func is node
            if not called and not isinstance(above, (ast.keyword, ast.Tuple)) and not isinstance(above, ast.Call):
                self.fault(node, f"L22: {node.id} is not called")
        if node.id in self.classes and not self.class_is_used(node):
            self.fault(node, f"L18: the class {node.id} is handed on")

    def class_is_used(self, node):
        above = self.parents[node]
        if isinstance(above, ast.Call):
            return above.func is node or (isinstance(above.func, ast.Name) and above.func.id == "isinstance")
        if isinstance(above, ast.Attribute):
            return above.attr == "__init__"
        return isinstance(above, (ast.ClassDef, ast.ExceptHandler, ast.Raise))

    def look_attribute(self, node):
        above = self.parents[node]
        called = isinstance(above, ast.Call) and above.func is node
        name = node.attr
        if name in NOWHERE or name in ("format", "format_map", "sort"):
            self.fault(node, f"L8, L17: {name}")
        if name.startswith("_") and not (name == "__init__" and called):
            self.fault(node, f"L12: {name}")
        if isinstance(node.ctx, ast.Store):
            if not isinstance(node.value, ast.Name) or node.value.id in self.classes | set(self.plain):
                self.fault(node, "L18: a value that is not given through a local")
            if name in VALUES_OUT or (name in PYTHONS_OWN and name not in VALUES_FREE):
                self.fault(node, f"L26: the value {name}")
        if called and name not in METHODS and name not in self.methods and name != "__init__":
            self.fault(node, f"L25: {name}")
        if not called and name in self.methods and not isinstance(above, ast.keyword):
            self.fault(node, f"L25: the method {name} is handed on")
        if not called and name in METHODS - VALUES_FREE:
            self.fault(node, f"L25: {name} is handed on")

    def look_assign(self, node):
        if len(node.targets) != 1 or isinstance(node.targets[0], (ast.Tuple, ast.List, ast.Starred)):
            self.fault(node, "L6: more than one target")

    def look_for(self, node):
        if node.orelse:
            self.fault(node, "L6: else behind a loop")
        self.unchanged_walk(node)

    def look_while(self, node):
        if node.orelse:
            self.fault(node, "L6: else behind a loop")

    def unchanged_walk(self, node):
        """L23: what a loop walks is not changed in it."""
        walked = node.iter
        if isinstance(walked, ast.Call) and isinstance(walked.func, ast.Name) and walked.func.id in WALKED:
            told = walked.args
        elif isinstance(walked, ast.Call) and isinstance(walked.func, ast.Attribute):
            told = [walked.func.value]
        else:
            told = [walked]
        names = {ast.dump(part).replace("Store()", "Load()") for part in told if isinstance(part, (ast.Name, ast.Attribute))}
        for part in [inner for row in node.body for inner in ast.walk(row)]:
            changed = None
            if isinstance(part, ast.Call) and isinstance(part.func, ast.Attribute) and part.func.attr in CHANGING:
                changed = part.func.value
            if isinstance(part, ast.Subscript) and isinstance(part.ctx, ast.Store):
                changed = part.value
            if changed is not None and ast.dump(changed) in names:
                self.fault(part, "L23: a loop changes what it walks")

    def look_try(self, node):
        if node.finalbody:
            self.fault(node, "L6: finally")
        for handler in node.handlers:
            if handler.type is None or ast.dump(handler.type).count("'Exception'") + ast.dump(handler.type).count("'TypeError'"):
                self.fault(handler, "L19: no named error class")

    def look_compare(self, node):
        for operator, part in zip(node.ops, node.comparators):
            if isinstance(operator, (ast.Is, ast.IsNot)):
                if not isinstance(part, ast.Constant) or part.value not in (None, True, False):
                    self.fault(node, "L20: is")

    def look_call(self, node):
        if any(isinstance(part, ast.Starred) for part in node.args) or any(part.arg is None for part in node.keywords):
            self.fault(node, "L7: a star")
        name = node.func.id if isinstance(node.func, ast.Name) else None
        if name in OWN_NAMES or (isinstance(node.func, ast.Attribute) and node.func.attr in METHODS):
            for part in node.keywords:
                if part.arg not in KEYWORDS.get(name, ()):
                    self.fault(node, f"L22: the keyword {part.arg}")
        if name in WALKED or (isinstance(node.func, ast.Attribute) and node.func.attr in WALKED_METHODS):
            self.walked_at_once(node)
        if name in ("set", "frozenset"):
            self.set_on_the_spot(node)

    def walked_at_once(self, node):
        above = self.parents[node]
        if isinstance(above, (ast.For, ast.comprehension)) and above.iter is node:
            return
        if isinstance(above, ast.Call) and above.args and above.args[0] is node:
            if isinstance(above.func, ast.Name) and above.func.id in WALKERS:
                return
        if isinstance(above, ast.Call) and isinstance(above.func, ast.Name) and above.func.id == "zip":
            return
        self.fault(node, "L23: kept, not walked at once")

    def set_on_the_spot(self, node):
        above = self.parents[node]
        while isinstance(above, ast.BinOp):
            above = self.parents[above]
        beside = isinstance(above, ast.Compare)
        within = isinstance(above, ast.Call) and isinstance(above.func, ast.Name) and above.func.id in ("sorted", "len")
        if not beside and not within:
            self.fault(node, "L24: a set that is kept")

    def look_set(self, node):
        if not isinstance(self.parents[node], ast.Compare):
            self.fault(node, "L13, L24: a set written out")

    def look_listcomp(self, node):
        if len(node.generators) != 1 or len(node.generators[0].ifs) > 1 or node.generators[0].is_async:
            self.fault(node, "L7: a comprehension of more than one for and one if")

    def look_formattedvalue(self, node):
        if not isinstance(node.value, ast.Name) or node.format_spec is not None or node.conversion not in (-1, 114):
            self.fault(node, "L7, L27: no plain name in an f-string")

    def look_constant(self, node):
        if isinstance(node.value, (float, bytes, complex)) or node.value is Ellipsis:
            self.fault(node, "L7: no such value")
        if isinstance(node.value, str) and chr(37) in node.value:
            self.fault(node, "L27: the percent sign in a text")

    def look_binop(self, node):
        if isinstance(node.op, (ast.Div, ast.MatMult)):
            self.fault(node, "L7: no such operator")
        if isinstance(node.op, ast.Pow):
            right = node.right
            if not isinstance(right, ast.Constant) or not 0 <= right.value <= 64:
                self.fault(node, "L27: an exponent that is not written")

    def look_augassign(self, node):
        if isinstance(node.op, (ast.Div, ast.MatMult, ast.Pow)):
            self.fault(node, "L7: no such operator")


class Language(unittest.TestCase):
    def test_the_package_keeps_to_the_rules(self):
        self.assertEqual(faults(os.path.dirname(os.path.abspath(everguard.__file__))), [])

    def test_rules_that_are_broken_are_seen(self):
        for rule, told in WRONG.items():
            with tempfile.TemporaryDirectory() as folder:
                with open(os.path.join(folder, "__init__.py"), "w", encoding="utf-8") as file:
                    file.write("")
                with open(os.path.join(folder, "wrong.py"), "w", encoding="utf-8") as file:
                    file.write(told)
                self.assertTrue(any(rule in fault for fault in faults(folder)), (rule, faults(folder)))


if __name__ == "__main__":
    unittest.main()
