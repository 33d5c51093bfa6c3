"""Looks through the files of the package for what the language of this program does not let."""

import ast
import builtins
import os
import re

FOLDER = os.path.join(os.path.dirname(os.path.dirname(os.path.abspath(__file__))), "loadanywhere")

BUILTINS = set("""len range enumerate zip min max sum abs sorted reversed int str bool bytes list tuple dict set
frozenset isinstance ord repr any all divmod Exception ValueError TypeError KeyError IndexError LookupError
ZeroDivisionError ArithmeticError OverflowError RuntimeError NotImplementedError AttributeError StopIteration
NotImplemented iter next map True False None""".split())

METHODS = set("""append clear copy count endswith extend find get index insert isalnum isalpha isdigit islower isspace
isupper items join keys ljust lower lstrip partition pop remove replace reverse rfind rjust rpartition rsplit rstrip
setdefault split splitlines startswith strip update upper values zfill bit_length""".split())

MODIFYING = set("append clear extend insert pop remove reverse setdefault update sort".split())

ATTRIBUTES_LET = set("count index title find get join lower upper split strip copy add".split())

NOWHERE = set("register mro elements open input law version_info with_traceback add_note".split())

NOT_AS_NAMES = set("""attrgetter breakpoint builtins compile copyright credits delattr dir eval exec exit gc getattr
globals hasattr help id importlib license locals methodcaller os quit setattr super type vars sys""".split())

NOT_IN_STRINGS = set("""typing typing_extensions enum Enum IntEnum StrEnum Flag IntFlag Generic Protocol ABC ABCMeta
namedtuple NamedTuple TypedDict TYPE_CHECKING abstractmethod dataclass overload contextmanager""".split())

DUNDERS = set("""__init__ __eq__ __repr__ __str__ __len__""".split())

LIBRARY = {"math": {"gcd", "lcm", "isqrt", "comb", "perm", "factorial"},
           "heapq": {"heappush", "heappop", "heapify", "heapreplace", "heappushpop"},
           "itertools": {"product", "combinations", "permutations"}}

ITERATED_BY = {"list", "tuple", "dict", "sorted", "sum", "any", "all", "enumerate", "zip", "min", "max"}

VALUE_NAMES = {name for kind in (str, int, list, dict, set, bytes, tuple) for name in dir(kind)}


class Checker:
    def __init__(self, sources):
        self.sources = sources
        self.trees = {name: ast.parse(text) for name, text in sources.items()}
        self.found = []
        self.own = {one.name for tree in self.trees.values() for part in ast.walk(tree)
                    if isinstance(part, ast.ClassDef) for one in part.body if isinstance(one, ast.FunctionDef)}
        self.methods = {}
        self.attributes = {}
        self.read = {}

    def say(self, file, node, rule, why):
        self.found.append(f"{file}:{getattr(node, 'lineno', node)}: {rule} {why}")

    def check(self):
        for file, tree in self.trees.items():
            self.lines(file)
            self.top(file, tree)
            for node in ast.walk(tree):
                for child in ast.iter_child_nodes(node):
                    child.parent = node
            for node in ast.walk(tree):
                self.node(file, node)
            self.scopes(file, tree)
        self.names_in_classes()
        self.rings_of_imports()
        return self.found

    def lines(self, file):
        text = self.sources[file]
        lines = text.split("\n")
        if len(lines) - 1 > 399:
            self.say(file, len(lines), "L10", "too many lines")
        for number, line in enumerate(lines, 1):
            if len(line) > 120:
                self.say(file, number, "L10", "line too long")
            if not all(" " <= sign <= "~" for sign in line):
                self.say(file, number, "L14", "sign")
            if re.search(r"_wall|_WallAttr", line):
                self.say(file, number, "L12", "word")

    def top(self, file, tree):
        names = {}
        for node in tree.body:
            if isinstance(node, ast.Expr) and isinstance(node.value, ast.Constant):
                continue
            if isinstance(node, (ast.FunctionDef, ast.ClassDef)):
                new = [node.name]
            elif isinstance(node, ast.ImportFrom):
                new = [alias.name for alias in node.names]
                self.imported(file, node)
            elif isinstance(node, ast.Assign):
                new = [target.id for target in node.targets if isinstance(target, ast.Name)]
                if len(node.targets) != 1 or len(new) != 1:
                    self.say(file, node, "L3", "assignment")
                self.plain_value(file, node.value)
            else:
                new = []
                self.say(file, node, "L3", "statement at module level")
            for name in new:
                if name in names or name in vars(builtins):
                    self.say(file, node, "L15", "bound twice: " + name)
                names[name] = node

    def plain_value(self, file, node, deep=False):
        if isinstance(node, (ast.List, ast.Dict)) and deep:
            self.say(file, node, "L15", "list or dict inside one at module level")
        for child in ast.iter_child_nodes(node):
            if isinstance(child, (ast.Call, ast.ListComp, ast.Set, ast.SetComp, ast.DictComp, ast.Lambda)):
                self.say(file, child, "L3", "no plain value")
            self.plain_value(file, child, deep or isinstance(node, (ast.List, ast.Dict)))

    def imported(self, file, node):
        names = [alias.name for alias in node.names]
        if node.level or any(alias.asname for alias in node.names) or "*" in names:
            self.say(file, node, "L2", "form of import")
        elif node.module in LIBRARY:
            if not set(names) <= LIBRARY[node.module]:
                self.say(file, node, "L2", "library")
        elif not node.module.startswith("loadanywhere.") or node.module.split(".")[1] + ".py" not in self.trees:
            self.say(file, node, "L2", "import from elsewhere")
        else:
            other = self.trees[node.module.split(".")[1] + ".py"]
            told = {one.name for one in other.body if isinstance(one, (ast.FunctionDef, ast.ClassDef))}
            told |= {one.targets[0].id for one in other.body if isinstance(one, ast.Assign)}
            if not set(names) <= told:
                self.say(file, node, "L16", "not defined there")
        text = self.sources[file]
        for name in names:
            if len(re.findall(r"\b" + name + r"\b", text)) < 2:
                self.say(file, node, "L2", "not used: " + name)

    def node(self, file, node):
        if isinstance(node, ast.FunctionDef):
            self.function(file, node)
        for kinds, rule in (((ast.GeneratorExp, ast.Set, ast.SetComp), "L7/L24 (not used here)"),
                            ((ast.Div, ast.MatMult), "L7"), ((ast.Global, ast.AsyncFunctionDef, ast.Await), "L6"),
                            ((ast.Yield, ast.YieldFrom, ast.NamedExpr, ast.Match, ast.With), "not used here"),
                            ((ast.AnnAssign,), "L21 (not used here)"), ((ast.Import,), "L2")):
            if isinstance(node, kinds):
                self.say(file, node, rule, node.__class__.__name__)
        if isinstance(node, ast.Constant):
            self.constant(file, node)
        if isinstance(node, ast.Compare):
            for sign, other in zip(node.ops, node.comparators):
                if isinstance(sign, (ast.Is, ast.IsNot)) and not (isinstance(other, ast.Constant)
                                                                  and other.value in (None, True, False)):
                    self.say(file, node, "L20", "is")
        if isinstance(node, ast.BinOp) and isinstance(node.op, ast.Pow) and not isinstance(node.right, ast.Constant):
            self.say(file, node, "L27", "power")
        if isinstance(node, ast.Call):
            self.call(file, node)
        if isinstance(node, ast.Name):
            if node.id == "super":
                self.super_call(file, node)
                return
            if node.id in vars(builtins) and node.id not in BUILTINS:
                self.say(file, node, "L8", "builtin " + node.id)
            self.name(file, node, node.id)
        if isinstance(node, ast.Attribute):
            is_super = isinstance(node.value, ast.Call) and getattr(node.value.func, "id", "") == "super"
            if node.attr in NOWHERE or node.attr in ("format", "format_map") or (
                    node.attr.startswith("__") and not (is_super and node.attr == "__init__")):
                self.say(file, node, "L17", node.attr)
            if isinstance(node.ctx, ast.Store) and not isinstance(node.value, ast.Name):
                self.say(file, node, "L18", "assigned through more than a name")
            if isinstance(node.ctx, ast.Load) and not (isinstance(node.parent, ast.Call) and node.parent.func is node):
                self.read.setdefault(node.attr, (file, node))
        if isinstance(node, ast.Try):
            for handler in node.handlers:
                kinds = handler.type.elts if isinstance(handler.type, ast.Tuple) else [handler.type]
                for kind in kinds:
                    if not isinstance(kind, ast.Name) or kind.id in vars(builtins):
                        self.say(file, node, "L19", "handler")
        if isinstance(node, ast.Raise) and node.exc is not None:
            if not (isinstance(node.exc, ast.Call) and isinstance(node.exc.func, ast.Name)):
                self.say(file, node, "L19", "raise")
            elif node.exc.keywords:
                self.say(file, node, "L19", "error made with keywords")
        if isinstance(node, (ast.For, ast.comprehension)):
            self.loop(file, node)
        if isinstance(node, ast.Dict) and None in node.keys:
            self.say(file, node, "L7", "** (not used here)")
        if isinstance(node, ast.Lambda):
            if node.args.defaults or sum(isinstance(one, ast.Lambda) and one.lineno == node.lineno
                                         for one in ast.walk(self.trees[file])) > 1:
                self.say(file, node, "L13", "lambda")

    def super_call(self, file, node):
        """super() stands only as super().told(..), also as super().__init__(..), right in the rows of a method."""
        told = node.parent.parent
        right = isinstance(node.parent, ast.Call) and not node.parent.args and isinstance(told, ast.Attribute)
        if not right or not isinstance(told.parent, ast.Call) or told.parent.func is not told:
            self.say(file, node, "L5", "super")

    def name(self, file, node, name):
        if name in NOWHERE or name in NOT_AS_NAMES or name.startswith("__"):
            self.say(file, node, "L17", name)
        if not re.fullmatch(r"_|_?[A-Za-z][A-Za-z0-9_]*", name):
            self.say(file, node, "L12", name)
        if name == "_" and isinstance(node, ast.Name) and isinstance(node.ctx, ast.Load):
            self.say(file, node, "L12", "_ is read")

    def constant(self, file, node):
        if isinstance(node.value, (float, complex, bytes)) or node.value is Ellipsis:
            self.say(file, node, "L7", "literal")
        if isinstance(node.value, str):
            is_told = isinstance(node.parent, ast.Expr)
            if "%" in node.value or (node.value.startswith("__") and node.value.endswith("__")):
                self.say(file, node, "L27", "string")
            words = set(re.findall(r"\w+", node.value))
            if not is_told and words & NOT_IN_STRINGS:
                self.say(file, node, "L17", "string")
        if isinstance(node.value, int) and len(str(node.value)) > 900:
            self.say(file, node, "L27", "number")

    def function(self, file, node):
        if node.end_lineno - node.lineno + 1 > 40:
            self.say(file, node, "L10", "function too long: " + node.name)
        if node.decorator_list or node.args.posonlyargs or node.args.kwonlyargs or node.args.vararg or node.args.kwarg:
            self.say(file, node, "L4", "decorators or parameters (not used here)")
        for default in node.args.defaults:
            if not isinstance(default, (ast.Constant, ast.Tuple)):
                self.say(file, node, "L4", "default")
        is_method = isinstance(node.parent, ast.ClassDef)
        if not is_method:
            self.name(file, node, node.name)
            if not isinstance(node.parent, ast.Module):
                self.say(file, node, "L4", "nested function (not used here)")
        for argument in node.args.args:
            self.name(file, node, argument.arg)
        if node.name.startswith("__"):
            if node.name not in DUNDERS or not is_method:
                self.say(file, node, "L5", node.name)
            if node.name == "__eq__" and not (len(node.body) == 1 and isinstance(node.body[0], ast.Return)):
                self.say(file, node, "L28", "__eq__")
            if node.name == "__len__":
                last = node.body[-1].value
                if not (len(node.body) == 1 and isinstance(last, ast.Call) and last.func.id == "len"):
                    self.say(file, node, "L28", "__len__")
            if node.name == "__init__" and any(isinstance(one, ast.Return) for one in ast.walk(node)):
                self.say(file, node, "L28", "__init__")

    def call(self, file, node):
        func = node.func
        if isinstance(func, ast.Constant):
            self.say(file, node, "L7", "literal called")
        if isinstance(func, ast.Subscript):
            self.say(file, node, "L3", "call from a table")
        if any(isinstance(one, ast.Starred) for one in node.args) or any(one.arg is None for one in node.keywords):
            self.say(file, node, "L7", "star in a call (not used here)")
        if isinstance(func, ast.Name):
            self.builtin_call(file, node, func.id)
        if isinstance(func, ast.Attribute):
            own = self.own
            if func.attr not in METHODS and func.attr not in own and func.attr != "__init__":
                self.say(file, node, "L25", func.attr)
            if func.attr in METHODS and node.keywords:
                self.say(file, node, "L22", "keyword of " + func.attr)
            if func.attr in ("items", "keys", "values"):
                self.on_the_spot(file, node)
            if func.attr == "sort":
                self.say(file, node, "L25", "sort")

    def builtin_call(self, file, node, name):
        let = {"sorted": {"key", "reverse"}, "min": {"key", "default"}, "max": {"key", "default"}, "sum": {"start"},
               "enumerate": {"start"}, "zip": {"strict"}}
        if name in vars(builtins) and not {one.arg for one in node.keywords} <= let.get(name, set()):
            self.say(file, node, "L22", "keyword")
        if name in ("zip", "enumerate", "reversed", "range"):
            self.on_the_spot(file, node)
        if name in ("set", "frozenset", "map", "iter", "next", "bytes"):
            self.say(file, node, "L23/L24 (not used here)", name)
        if name == "isinstance":
            kinds = node.args[1].elts if isinstance(node.args[1], ast.Tuple) else [node.args[1]]
            if not all(isinstance(one, ast.Name) for one in kinds):
                self.say(file, node, "L22", "isinstance")

    def on_the_spot(self, file, node):
        parent = node.parent
        right = isinstance(parent, (ast.For, ast.comprehension)) and parent.iter is node
        if isinstance(parent, ast.Call) and isinstance(parent.func, ast.Name) and parent.func.id in ITERATED_BY:
            right = parent.args[0] is node or parent.func.id == "zip"
        if isinstance(parent, ast.Call) and isinstance(parent.func, ast.Name) and parent.func.id == "reversed":
            right = isinstance(node.func, ast.Name) and node.func.id == "range"
        if isinstance(parent, ast.Compare) and isinstance(parent.ops[0], (ast.In, ast.NotIn)):
            right = True
        if not right:
            self.say(file, node, "L23", "not iterated on the spot")

    def loop(self, file, node):
        over = node.iter
        while isinstance(over, ast.Call) and (
                (isinstance(over.func, ast.Name) and over.func.id in ("enumerate", "zip", "reversed"))
                or (isinstance(over.func, ast.Attribute) and over.func.attr in ("items", "values", "keys"))):
            over = over.args[0] if isinstance(over.func, ast.Name) else over.func.value
        if not isinstance(over, (ast.Name, ast.Attribute)) or not isinstance(node, ast.For):
            return
        text = ast.unparse(over)
        for part in [one for statement in node.body for one in ast.walk(statement)]:
            if isinstance(part, ast.Call) and isinstance(part.func, ast.Attribute) and part.func.attr in MODIFYING:
                if ast.unparse(part.func.value) == text:
                    self.say(file, part, "L23", "changes what it iterates over")
            if isinstance(part, ast.Subscript) and isinstance(part.ctx, (ast.Store, ast.Del)):
                if ast.unparse(part.value) == text:
                    self.say(file, part, "L23", "changes what it iterates over")
            if isinstance(part, (ast.Name, ast.Attribute)) and isinstance(part.ctx, ast.Store):
                if ast.unparse(part) == text:
                    self.say(file, part, "L23", "assigns what it iterates over")

    def scopes(self, file, tree):
        """No parameter or local variable has the name of a class or an import of its file, or of a builtin."""
        barred = {alias.name for node in tree.body if isinstance(node, ast.ImportFrom) for alias in node.names}
        barred |= {node.name for node in tree.body if isinstance(node, ast.ClassDef)}
        for node in ast.walk(tree):
            new = []
            if isinstance(node, ast.arg):
                new = [node.arg]
            if isinstance(node, ast.Name) and isinstance(node.ctx, ast.Store) and not isinstance(node.parent, ast.Module):
                new = [node.id]
            for name in new:
                if name in barred:
                    self.say(file, node, "L15", "name of an import or a class: " + name)
                if name in vars(builtins):
                    self.say(file, node, "L15", "name of a builtin: " + name)

    def names_in_classes(self):
        for file, tree in self.trees.items():
            for node in tree.body:
                if not isinstance(node, ast.ClassDef):
                    continue
                methods = [one.name for one in node.body if isinstance(one, ast.FunctionDef)]
                held = {part.attr for part in ast.walk(node) if isinstance(part, ast.Attribute)
                        and isinstance(part.ctx, ast.Store) and isinstance(part.value, ast.Name)
                        and part.value.id == "self"}
                if len(set(methods)) != len(methods) or set(methods) & held:
                    self.say(file, node, "L18", "a name twice")
                for name in methods:
                    if not name.startswith("__"):
                        self.methods.setdefault(name, (file, node))
                        if name in VALUE_NAMES and name not in METHODS | {"add", "discard"}:
                            self.say(file, node, "L26", name)
                for name in held:
                    self.attributes.setdefault(name, (file, node))
                    if name in VALUE_NAMES and name not in ATTRIBUTES_LET:
                        self.say(file, node, "L26", name)
                for one in node.body:
                    if not isinstance(one, (ast.FunctionDef, ast.Expr)):
                        self.say(file, one, "L5", "in a class")
        for name in set(self.methods) & set(self.attributes):
            self.say(*self.methods[name], "L18 (kept apart here)", "method and attribute: " + name)
        for name, (file, node) in self.read.items():
            if name not in self.attributes:
                self.say(file, node, "L18", "read, but never assigned: " + name)

    def rings_of_imports(self):
        needs = {file: {node.module.split(".")[1] + ".py" for node in tree.body if isinstance(node, ast.ImportFrom)
                        and node.module.startswith("loadanywhere.")} for file, tree in self.trees.items()}
        left = dict(needs)
        while left:
            free = [file for file in left if not set(left) & left[file]]
            if not free:
                self.say(sorted(left)[0], 1, "L16", "imports in a ring")
                return
            for file in free:
                del left[file]


def sources():
    found = {}
    for file in sorted(os.listdir(FOLDER)):
        if file != "__pycache__":
            with open(os.path.join(FOLDER, file), encoding="utf-8") as held:
                found[file] = held.read()
    return found
