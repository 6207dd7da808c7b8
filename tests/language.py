"""What of the rules of the language of the package can be seen in its files; the names L1 to L28 are those rules'."""

import ast
import builtins
import functools
import pathlib
import re

ROOT = pathlib.Path(__file__).resolve().parent.parent
PACKAGE = "wholeorders"
BUILTINS = set(
    "len range enumerate zip min max sum abs sorted reversed int str bool bytes list tuple dict set frozenset "
    "isinstance ord repr any all divmod map iter Exception ValueError TypeError KeyError IndexError LookupError "
    "ZeroDivisionError ArithmeticError OverflowError RuntimeError NotImplementedError AttributeError".split())
LIBRARY = {
    "heapq": {"heappush", "heappop", "heapify", "heapreplace", "heappushpop"},
    "math": {"gcd", "lcm", "isqrt", "comb", "perm", "factorial"},
    "itertools": {"product", "combinations", "permutations", "chain", "accumulate", "pairwise", "islice",
                  "zip_longest"},
    "collections": {"defaultdict", "deque"},
}
METHODS = set(
    "append clear copy count endswith extend find get index insert isalnum isalpha isdigit islower isspace isupper "
    "items join keys ljust lower lstrip partition pop remove replace reverse rfind rjust rpartition rsplit rstrip "
    "setdefault sort split splitlines startswith strip update upper values zfill bit_length add discard "
    "__init__".split())
BARRED_NAMES = set(
    "mro elements open input law version_info with_traceback add_note register attrgetter breakpoint builtins "
    "compile delattr dir eval exec exit gc getattr globals hasattr help importlib locals methodcaller os setattr "
    "super type vars sys typing enum".split())
BARRED_WORDS = set(
    "type typing typing_extensions enum Enum IntEnum StrEnum Flag IntFlag Generic Protocol ABC ABCMeta namedtuple "
    "NamedTuple TypedDict TYPE_CHECKING abstractmethod _wall _WallAttr".split())
STATEMENTS = (
    ast.Assign, ast.AugAssign, ast.If, ast.While, ast.For, ast.Return, ast.Break, ast.Continue, ast.Pass, ast.Raise,
    ast.Assert, ast.Delete, ast.Try, ast.Expr, ast.FunctionDef, ast.ClassDef, ast.ImportFrom)
EXPRESSIONS = (
    ast.BoolOp, ast.BinOp, ast.UnaryOp, ast.IfExp, ast.Dict, ast.ListComp, ast.DictComp, ast.SetComp, ast.Compare,
    ast.Call, ast.JoinedStr, ast.FormattedValue, ast.Constant, ast.Attribute, ast.Subscript, ast.Starred, ast.Name,
    ast.List, ast.Tuple, ast.Slice, ast.Lambda, ast.GeneratorExp, ast.Set)
VIEWS = ("range", "zip", "enumerate", "reversed", "map", "items", "keys", "values")


def files():
    """Return the files of the package."""
    return sorted(path for path in (ROOT / PACKAGE).rglob("*") if "__pycache__" not in path.parts)


def called(node):
    """Return the name that a call calls, or None."""
    if isinstance(node, ast.Call):
        if isinstance(node.func, ast.Name):
            return node.func.id
        if isinstance(node.func, ast.Attribute):
            return node.func.attr
    return None


class Checker:
    """All faults found in one file."""

    def __init__(self, path):
        self.path = path
        self.text = path.read_text(encoding="utf-8")
        self.module = ast.parse(self.text)
        self.outer = {inner: node for node in ast.walk(self.module) for inner in ast.iter_child_nodes(node)}
        self.faults = []

    def fault(self, rule, node, what):
        line = node if isinstance(node, int) else getattr(node, "lineno", 0)
        self.faults.append(f"{self.path.name}:{line}: {rule}: {what}")

    def check(self):
        self.check_text()
        self.check_module()
        self.imported = [alias.name for node in ast.walk(self.module) if isinstance(node, ast.ImportFrom)
                         for alias in node.names]
        self.classes = [node.name for node in self.module.body if isinstance(node, ast.ClassDef)]
        for node in ast.walk(self.module):
            self.check_node(node)
            if isinstance(node, ast.FunctionDef):
                self.check_function(node)
        return self.faults

    def check_text(self):
        lines = self.text.split("\n")
        if len(lines) > 400:
            self.fault("L10", 0, "more than 399 lines")
        for at, line in enumerate(lines, 1):
            if len(line) > 120 or "\t" in line:
                self.fault("L10", at, "a line of more than 120 characters, or a tab")
            if re.search(r"[^ -~]", line):
                self.fault("L14", at, "a character that is none from the space to ~")
        if not re.fullmatch(r"[a-z][a-z0-9_]*\.py|__init__\.py|__main__\.py", self.path.name):
            self.fault("L14", 0, "the name of the file")

    def check_module(self):
        for at, node in enumerate(self.module.body):
            docstring = isinstance(node, ast.Expr) and isinstance(node.value, ast.Constant) and at == 0
            if isinstance(node, ast.Assign):
                bad = [part for part in ast.walk(node.value)
                       if isinstance(part, (ast.Call, ast.ListComp, ast.DictComp, ast.SetComp, ast.GeneratorExp))]
                if len(node.targets) != 1 or not isinstance(node.targets[0], ast.Name) or bad:
                    self.fault("L3", node, "no plain value of one name")
            elif not docstring and not isinstance(node, (ast.ImportFrom, ast.FunctionDef, ast.ClassDef)):
                self.fault("L3", node, "not at module level")

    def check_node(self, node):
        if isinstance(node, ast.stmt) and not isinstance(node, STATEMENTS):
            self.fault("L6", node, type(node).__name__)
        if isinstance(node, ast.expr) and not isinstance(node, EXPRESSIONS):
            self.fault("L7", node, type(node).__name__)
        for kind in (ast.ImportFrom, ast.Constant, ast.BinOp, ast.Name, ast.Attribute, ast.Call, ast.Compare,
                     ast.ClassDef, ast.GeneratorExp, ast.Set, ast.SetComp, ast.For, ast.arg):
            if isinstance(node, kind):
                getattr(self, "check_" + kind.__name__.lower())(node)

    def check_importfrom(self, node):
        allowed = LIBRARY.get(node.module)
        for alias in node.names:
            if node.level or alias.asname or alias.name == "*":
                self.fault("L2", node, "the form of the import")
            if allowed is not None and alias.name not in allowed:
                self.fault("L2", node, alias.name)
            if allowed is None and not (node.module or "").startswith(PACKAGE + "."):
                self.fault("L2", node, node.module)
            if allowed is None and (node.module, alias.name) not in definitions():
                self.fault("L16", node, f"{alias.name} is not defined in {node.module}")

    def check_constant(self, node):
        if isinstance(node.value, (float, complex)):
            self.fault("L7", node, "a float")
        if isinstance(node.value, str) and "%" in node.value:
            self.fault("L27", node, "the character of a rest in a string")
        if isinstance(node.value, str) and BARRED_WORDS & set(re.findall(r"\w+", node.value)):
            if not node.value.endswith("."):
                self.fault("L17", node, "a barred word in a string")

    def check_binop(self, node):
        if isinstance(node.op, (ast.Div, ast.MatMult)):
            self.fault("L7", node, "a division to a float")
        if isinstance(node.op, ast.Pow):
            self.fault("L27", node, "a power: this package does without")

    def check_name(self, node):
        if isinstance(node.ctx, ast.Load):
            if hasattr(builtins, node.id) and node.id not in BUILTINS:
                self.fault("L8", node, node.id)
            if node.id == "_":
                self.fault("L12", node, "_ is read")
        else:
            self.check_bound(node, node.id)

    def check_arg(self, node):
        self.check_bound(node, node.arg)
        if node.annotation is not None:
            self.fault("L21", node, "an annotation: this package does without")

    def check_bound(self, node, name):
        if hasattr(builtins, name) and name != "_":
            self.fault("L15", node, f"{name} is a builtin's name")
        if name in self.imported or name in self.classes:
            self.fault("L15", node, f"{name} is the name of an import or a class")
        if name in BARRED_NAMES:
            self.fault("L17", node, name)
        if not re.fullmatch(r"_?[A-Za-z][A-Za-z0-9_]*|_", name):
            self.fault("L12", node, name)

    def check_attribute(self, node):
        if node.attr.startswith("__") and node.attr != "__init__":
            self.fault("L8", node, node.attr)
        if node.attr in BARRED_NAMES or node.attr in ("format", "format_map", "args"):
            self.fault("L17", node, node.attr)

    def check_call(self, node):
        name = called(node)
        if isinstance(node.func, ast.Attribute) and name not in METHODS | own_methods():
            self.fault("L25", node, name)
        if isinstance(node.func, ast.Name) and name in BUILTINS:
            for keyword in node.keywords:
                if (name, keyword.arg) not in {("sorted", "key"), ("sorted", "reverse"), ("min", "key"),
                                               ("max", "key"), ("min", "default"), ("max", "default"),
                                               ("sum", "start"), ("enumerate", "start"), ("zip", "strict")}:
                    self.fault("L22", node, f"{name} with {keyword.arg}")
        if name in ("set", "frozenset"):
            self.fault("L24", node, "a set") if not self.set_stands_well(node) else None
        if name in VIEWS and not self.iterated(node):
            self.fault("L23", node, f"{name} is not iterated at once")
        if name in ("product", "combinations", "permutations") and not self.iterated(node):
            self.fault("L2", node, f"{name} is not iterated at once")

    def check_compare(self, node):
        for op, right in zip(node.ops, node.comparators):
            if isinstance(op, (ast.Is, ast.IsNot)) and not isinstance(right, ast.Constant):
                self.fault("L20", node, "is")

    def check_classdef(self, node):
        if node.decorator_list or node.keywords or len(node.bases) > 1:
            self.fault("L5", node, node.name)

    def check_generatorexp(self, node):
        if called(self.outer.get(node)) not in ("list", "tuple", "dict", "sorted", "sum", "min", "max", "any", "all",
                                            "join"):
            self.fault("L7", node, "a generator expression")

    def check_set(self, node):
        self.fault("L24", node, "a set") if not self.set_stands_well(node) else None

    def check_setcomp(self, node):
        self.fault("L24", node, "a set") if not self.set_stands_well(node) else None

    def check_for(self, node):
        if not isinstance(node.iter, ast.Name):
            return
        for part in [part for row in node.body for part in ast.walk(row)]:
            if isinstance(part, ast.Call) and isinstance(part.func, ast.Attribute):
                owner = part.func.value
                if isinstance(owner, ast.Name) and owner.id == node.iter.id and part.func.attr not in (
                        "index", "count", "get", "items", "keys", "values"):
                    self.fault("L23", part, "what the loop iterates over is changed")
            if isinstance(part, ast.Subscript) and not isinstance(part.ctx, ast.Load):
                if isinstance(part.value, ast.Name) and part.value.id == node.iter.id:
                    self.fault("L23", part, "what the loop iterates over is changed")

    def iterated(self, node):
        outer = self.outer.get(node)
        if isinstance(outer, (ast.For, ast.comprehension)):
            return outer.iter is node
        return called(outer) in ("list", "tuple", "dict", "sorted", "sum", "any", "all", "enumerate", "zip", "min",
                                 "max", "join", "len", "reversed", "permutations", "combinations", "product")

    def set_stands_well(self, node):
        outer = self.outer.get(node)
        return isinstance(outer, ast.Compare) or called(outer) in ("sorted", "len")

    def check_function(self, node):
        if node.end_lineno - node.lineno + 1 > 40:
            self.fault("L10", node, f"{node.name} has more than 40 lines")
        if node.decorator_list or node.returns is not None:
            self.fault("L4", node, f"{node.name} is decorated or annotated")
        if not node.name.startswith("__"):
            self.check_bound(node, node.name)
        if not ast.get_docstring(node) and node.name != "__init__":
            self.fault("docstring", node, node.name)
        for inner in ast.walk(node):
            if inner is not node and isinstance(inner, (ast.FunctionDef, ast.Lambda)):
                self.fault("L4", inner, "a nested function: this package does without")


@functools.lru_cache(maxsize=None)
def definitions():
    """Return the pairs (module, name) of all that the files of the package define at their module level."""
    found = set()
    for path in files():
        module = f"{PACKAGE}.{path.stem}"
        for node in ast.parse(path.read_text(encoding="utf-8")).body:
            if isinstance(node, (ast.FunctionDef, ast.ClassDef)):
                found.add((module, node.name))
            if isinstance(node, ast.Assign):
                found.add((module, node.targets[0].id))
    return found


@functools.lru_cache(maxsize=None)
def own_methods():
    """Return the names of the methods of the package's classes."""
    found = set()
    for path in files():
        for node in ast.walk(ast.parse(path.read_text(encoding="utf-8"))):
            if isinstance(node, ast.ClassDef):
                found |= {part.name for part in node.body if isinstance(part, ast.FunctionDef)}
    return found


def imports_of():
    """Return a dict from each file to the set of those of the package from which it imports."""
    found = {}
    for path in files():
        tree = ast.parse(path.read_text(encoding="utf-8"))
        found[path.stem] = {node.module.split(".")[-1] for node in ast.walk(tree)
                            if isinstance(node, ast.ImportFrom) and node.module.startswith(PACKAGE)}
    return found
