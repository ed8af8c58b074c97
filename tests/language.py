"""Looks through the package's files for what its part of Python leaves out; each find names the rule and the line."""

import ast
import builtins
import re

STATEMENTS = (ast.Assign, ast.AugAssign, ast.AnnAssign, ast.If, ast.While, ast.For, ast.Return, ast.Break, ast.Continue,
              ast.Pass, ast.Raise, ast.Try, ast.Expr, ast.FunctionDef, ast.ClassDef, ast.ImportFrom)
EXPRESSIONS = (ast.Constant, ast.Name, ast.List, ast.Tuple, ast.Dict, ast.Set, ast.BinOp, ast.UnaryOp, ast.BoolOp,
               ast.Compare, ast.IfExp, ast.Call, ast.Attribute, ast.Subscript, ast.Slice, ast.ListComp, ast.JoinedStr,
               ast.FormattedValue, ast.Lambda)
BUILTINS = ("len range enumerate zip min max sum abs sorted reversed int str bool list tuple dict set frozenset "
            "isinstance ord repr any all divmod Exception ValueError TypeError KeyError IndexError LookupError "
            "ZeroDivisionError ArithmeticError OverflowError RuntimeError NotImplementedError StopIteration").split()
METHODS = ("append clear copy count endswith extend find get index insert isalnum isalpha isdigit islower isspace "
           "isupper items join keys ljust lower lstrip partition pop remove replace reverse rfind rjust rpartition "
           "rsplit rstrip setdefault split splitlines startswith strip update upper values zfill bit_length").split()
CHANGING = ("append", "clear", "extend", "insert", "pop", "remove", "reverse", "setdefault", "update")
UNUSED = ("type typing typing_extensions enum Enum IntEnum StrEnum Flag IntFlag Generic Protocol ABC ABCMeta namedtuple "
          "NamedTuple TypedDict TYPE_CHECKING abstractmethod").split()
VALUES = "count index title find get join lower upper split strip copy add".split()
DUNDERS = ("__init__", "__eq__", "__repr__", "__str__", "__len__")
KEYWORDS = {"sorted": ("key", "reverse"), "min": ("key", "default"), "max": ("key", "default"), "sum": ("start",),
            "enumerate": ("start",), "zip": ("strict",)}
WALKED = ("zip", "enumerate", "reversed", "range")
WALKERS = ("list", "tuple", "dict", "sorted", "sum", "any", "all", "enumerate", "zip", "min", "max")


def names_bound_by(node):
    if isinstance(node, ast.Name) and isinstance(node.ctx, ast.Store):
        return [node.id]
    if isinstance(node, ast.arg):
        return [node.arg]
    if isinstance(node, (ast.FunctionDef, ast.ClassDef)):
        return [node.name]
    if isinstance(node, ast.ImportFrom):
        return [name.asname or name.name for name in node.names]
    return []


class Look:
    # Others are the methods that other files of the package define.
    def __init__(self, package, name, source, others):
        self.package = package
        self.others = others
        self.name = name
        self.source = source
        self.finds = []
        self.tree = ast.parse(source)
        self.above = {}
        self.own = []
        for node in ast.walk(self.tree):
            self.own.extend(names_bound_by(node))
            for inner in ast.iter_child_nodes(node):
                self.above[inner] = node

    def find(self, rule, node, why):
        line = node if isinstance(node, int) else getattr(node, "lineno", 0)
        self.finds.append(f"{self.name}:{line}: {rule} {why}")

    def all_finds(self):
        self.look_at_rows()
        self.look_at_top()
        for node in ast.walk(self.tree):
            self.look_at_kind(node)
            self.look_at_names(node)
            if isinstance(node, ast.Call):
                self.look_at_call(node)
            if isinstance(node, (ast.For, ast.comprehension)):
                self.look_at_loop(node)
        return self.finds

    def look_at_rows(self):
        rows = self.source.split("\n")
        if len(rows) > 401:
            self.find("L10", 401, "file too long")
        for number, one in enumerate(rows, start=1):
            if len(one) > 120:
                self.find("L10", number, "row too long")
            if any(not " " <= sign <= "~" for sign in one):
                self.find("L14", number, "a sign beyond those that are used")
            for word in re.findall(r"\w+", one):
                if word in UNUSED or any(part in word for part in ("dataclass", "overload", "contextmanager")):
                    self.find("L17", number, word)

    def look_at_top(self):
        bound = []
        for node in self.tree.body:
            bound.extend(names_bound_by(node))
            if isinstance(node, ast.Assign):
                bound.extend(name for target in node.targets for name in names_bound_by(target))
                self.look_at_plain(node.value, True)
            elif isinstance(node, ast.ImportFrom):
                if node.level or not (node.module + ".").startswith(self.package + "."):
                    self.find("L2", node, "import")
            elif isinstance(node, ast.Expr) and not isinstance(node.value, ast.Constant):
                self.find("L3", node, "at the top")
            elif not isinstance(node, (ast.FunctionDef, ast.ClassDef, ast.Expr)):
                self.find("L3", node, "at the top")
        for name in bound:
            if bound.count(name) > 1:
                self.find("L15", 0, f"{name} bound twice")

    def look_at_plain(self, node, outermost):
        if isinstance(node, ast.Dict) and outermost:
            inner = node.keys + node.values
        elif isinstance(node, ast.Tuple) or isinstance(node, ast.List) and outermost:
            inner = node.elts
        else:
            inner = ()
            if not isinstance(node, (ast.Constant, ast.Name, ast.UnaryOp)):
                self.find("L3", node, "no plain value")
        for one in inner:
            self.look_at_plain(one, False)

    def look_at_kind(self, node):
        if isinstance(node, ast.stmt) and not isinstance(node, STATEMENTS):
            self.find("L6", node, "statement")
        if isinstance(node, ast.expr) and not isinstance(node, EXPRESSIONS):
            self.find("L7", node, "expression")
        if isinstance(node, ast.Constant) and isinstance(node.value, (float, complex, bytes)):
            self.find("L7", node, "value")
        if isinstance(node, ast.Constant) and isinstance(node.value, str) and "%" in node.value:
            self.find("L27", node, "sign within a text")
        if isinstance(node, (ast.Div, ast.MatMult)):
            self.find("L7", self.above[node], "operator")
        if isinstance(node, ast.Pow) and not isinstance(self.above[node].right, ast.Constant):
            self.find("L27", self.above[node], "power")
        if isinstance(node, ast.Assign) and (len(node.targets) != 1 or isinstance(node.targets[0], (ast.Tuple, ast.List))):
            self.find("L6", node, "one target")
        if isinstance(node, (ast.For, ast.While)) and node.orelse or isinstance(node, ast.Try) and node.finalbody:
            self.find("L6", node, "else or finally")
        if isinstance(node, ast.Expr) and not isinstance(node.value, ast.Call) and self.above[node] is not self.tree:
            self.find("L6", node, "a value by itself")
        if isinstance(node, ast.ListComp) and (len(node.generators) != 1 or len(node.generators[0].ifs) > 1):
            self.find("L7", node, "comprehension")
        if isinstance(node, ast.Compare) and any(isinstance(op, (ast.Is, ast.IsNot)) for op in node.ops):
            if not any(isinstance(one, ast.Constant) for one in node.comparators):
                self.find("L20", node, "is")
        if isinstance(node, ast.FunctionDef):
            self.look_at_function(node)
        if isinstance(node, ast.ClassDef) and (node.decorator_list or len(node.bases) > 1 or node.keywords or any(
                not isinstance(inner, (ast.FunctionDef, ast.Pass)) for inner in node.body)):
            self.find("L5", node, "class")

    def look_at_function(self, node):
        arguments = node.args
        if node.end_lineno - node.lineno + 1 > 40:
            self.find("L10", node, "function too long")
        if node.decorator_list or arguments.vararg or arguments.kwarg or arguments.kwonlyargs or arguments.posonlyargs:
            self.find("L4", node, "parameters or decorator")
        if node.returns or any(one.annotation for one in arguments.args):
            self.find("L21", node, "annotation")

    def look_at_names(self, node):
        if isinstance(node, ast.Name) and node.id not in self.own and node.id not in BUILTINS:
            self.find("L8", node, node.id)
        for name in names_bound_by(node):
            if name.startswith("_") and name not in DUNDERS:
                self.find("L12", node, name)
            if isinstance(node, (ast.Name, ast.arg)) and (name in dir(builtins) or name in self.defs_and_imports()):
                self.find("L15", node, name)

    def defs_and_imports(self):
        tops = [node for node in self.tree.body if not isinstance(node, ast.Assign)]
        return [name for node in tops for name in names_bound_by(node)]

    def look_at_call(self, node):
        name = node.func.id if isinstance(node.func, ast.Name) else ""
        for keyword in node.keywords:
            if keyword.arg not in KEYWORDS.get(name, ()):
                self.find("L22", node, "keyword")
        above = self.above[node]
        if name in WALKED or isinstance(node.func, ast.Attribute) and node.func.attr in ("items", "keys", "values"):
            looped = isinstance(above, (ast.For, ast.comprehension)) and above.iter is node
            taken = isinstance(above, ast.Call) and isinstance(above.func, ast.Name) and above.func.id in WALKERS
            if not looped and not taken:
                self.find("L23", node, "not walked at once")
        if name in ("set", "frozenset"):
            asked = isinstance(above, (ast.Compare, ast.BinOp))
            taken = isinstance(above, ast.Call) and getattr(above.func, "id", "") in ("sorted", "len")
            if not asked and not taken:
                self.find("L24", node, "a set that is kept")
        if isinstance(node.func, ast.Attribute):
            known = METHODS + self.own + self.others
            if node.func.attr not in known:
                self.find("L25", node, node.func.attr)

    def look_at_loop(self, node):
        if not isinstance(node, ast.For) or not isinstance(node.iter, (ast.Name, ast.Attribute)):
            return
        walked = ast.dump(node.iter)
        for inner in ast.walk(node):
            if isinstance(inner, ast.Call) and isinstance(inner.func, ast.Attribute):
                if inner.func.attr in CHANGING and ast.dump(inner.func.value) == walked:
                    self.find("L23", inner, "changed while it is walked")


# A value of an object is not called like a method of the package, or like what Python's own values have.
def values_kept(name, source, methods):
    own = [word for kind in (str, int, list, dict, set, bytes) for word in dir(kind) if word not in VALUES]
    for node in ast.walk(ast.parse(source)):
        if isinstance(node, ast.Attribute) and isinstance(node.ctx, ast.Store):
            if node.attr in methods:
                yield f"{name}:{node.lineno}: L18 {node.attr} is a method too"
            if node.attr in own:
                yield f"{name}:{node.lineno}: L26 {node.attr}"


def methods_of(source):
    classes = [node for node in ast.parse(source).body if isinstance(node, ast.ClassDef)]
    return [inner.name for node in classes for inner in node.body if isinstance(inner, ast.FunctionDef)]


# Of a dict from the names of a package's files to what stands in them.
def finds_of(package, sources):
    others = [name for source in sources.values() for name in methods_of(source)]
    finds = []
    for name, source in sorted(sources.items()):
        finds.extend(Look(package, name, source, others).all_finds())
        finds.extend(values_kept(name, source, others))
    return finds
