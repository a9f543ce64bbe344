"""Holds the package against those rules of the language subset that a script can test."""

import ast
import builtins
import re
from pathlib import Path

ROOT = Path(__file__).resolve().parent.parent
PACKAGE = "trunkweb"

LIBRARY = {
    "heapq": {"heappush", "heappop", "heapify", "heapreplace", "heappushpop"},
    "math": {"gcd", "lcm", "isqrt", "comb", "perm", "factorial"},
    "itertools": {"product", "combinations", "permutations", "chain", "accumulate", "pairwise", "islice",
                  "zip_longest"},
    "collections": {"defaultdict", "deque"},
}
BUILTINS = set("""len range enumerate zip min max sum abs sorted reversed int str bool bytes list tuple dict set
frozenset isinstance ord repr any all divmod pow map iter next Exception ValueError TypeError KeyError IndexError
LookupError ZeroDivisionError ArithmeticError OverflowError RuntimeError NotImplementedError AttributeError
NotImplemented""".split())
METHODS = set("""append clear copy count endswith extend find get index insert isalnum isalpha isdigit islower
isspace isupper items join keys ljust lower lstrip partition pop remove replace reverse rfind rjust rpartition
rsplit rstrip setdefault split splitlines startswith strip update upper values zfill bit_length isascii sort add
discard appendleft popleft extendleft rotate removeprefix removesuffix rindex""".split())
BARRED = set("""register mro elements open input law version_info with_traceback add_note attrgetter breakpoint
builtins compile copyright credits delattr dir eval exec exit gc getattr globals hasattr help id importlib license
locals methodcaller os quit setattr super type vars sys __name__ typing enum namedtuple dataclass overload
contextmanager""".split())
SPECIAL = {"__init__"}
STATEMENTS = (
    ast.Assign, ast.AugAssign, ast.If, ast.While, ast.For, ast.Return, ast.Break, ast.Continue, ast.Pass, ast.Raise,
    ast.Assert, ast.Delete, ast.Expr, ast.FunctionDef, ast.ClassDef, ast.ImportFrom,
)
LAZY = {"zip", "enumerate", "reversed", "range", "map"}
VIEWS = {"items", "keys", "values"}
EATERS = {"list", "tuple", "dict", "sorted", "sum", "any", "all", "enumerate", "zip", "min", "max", "len"}
CHANGERS = {"append", "clear", "extend", "insert", "pop", "remove", "reverse", "setdefault", "update", "sort",
            "popleft", "appendleft"}


def files(root=ROOT):
    """Return the files of the package, ascending."""
    return sorted(path for path in (root / PACKAGE).rglob("*") if "__pycache__" not in path.parts and path.is_file())


def module_of(path, root=ROOT):
    """Return the full name of a file's module."""
    parts = list(path.relative_to(root).with_suffix("").parts)
    return ".".join(parts[:-1] if parts[-1] == "__init__" else parts)


class Reader:
    """Reads one file and collects what it does against the rules."""

    def __init__(self, path, source, own_methods, defined):
        self.path = path
        self.source = source
        self.own_methods = own_methods
        self.defined = defined
        self.faults = []
        self.imports = []

    def fault(self, rule, line, text):
        self.faults.append(f"{self.path}:{line}: {rule}: {text}")

    def read(self):
        self.read_lines()
        tree = ast.parse(self.source)
        for node in ast.walk(tree):
            for child in ast.iter_child_nodes(node):
                child.parent = node
        self.read_top(tree)
        for node in ast.walk(tree):
            self.read_node(node)
        return self.faults

    def read_lines(self):
        lines = self.source.split("\n")
        if len(lines) > 400:
            self.fault("L10", len(lines), "more than 399 lines")
        for number, line in enumerate(lines, 1):
            if len(line) > 120:
                self.fault("L10", number, "a line of more than 120 characters")
            if any(not " " <= sign <= "~" for sign in line):
                self.fault("L14", number, "a character that is not plain")
            if re.search(r"\b_wall|_WallAttr", line):
                self.fault("L12", number, "a barred word")

    def read_top(self, tree):
        bound = []
        for at, node in enumerate(tree.body):
            if isinstance(node, ast.ImportFrom):
                self.take_import(node)
                bound += [name.name for name in node.names]
            elif isinstance(node, (ast.FunctionDef, ast.ClassDef)):
                bound.append(node.name)
            elif isinstance(node, ast.Assign):
                if len(node.targets) != 1 or not isinstance(node.targets[0], ast.Name):
                    self.fault("L3", node.lineno, "not one plain name")
                else:
                    bound.append(node.targets[0].id)
                if any(isinstance(part, (ast.Call, ast.ListComp, ast.DictComp)) for part in ast.walk(node.value)):
                    self.fault("L3", node.lineno, "no plain value")
            elif not (at == 0 and isinstance(node, ast.Expr) and isinstance(node.value, ast.Constant)):
                self.fault("L3", node.lineno, "does not stand at module level")
        for name in sorted({name for name in bound if bound.count(name) > 1}):
            self.fault("L15", 1, f"{name} is bound twice")
        self.top = {name.name for node in tree.body if isinstance(node, ast.ImportFrom) for name in node.names}
        self.top |= {node.name for node in tree.body if isinstance(node, ast.ClassDef)}
        if ast.get_docstring(tree) is None:
            self.fault("form", 1, "no docstring")

    def take_import(self, node):
        names = {name.name for name in node.names}
        if node.level or any(name.asname for name in node.names):
            self.fault("L2", node.lineno, "not a plain import")
        elif node.module in LIBRARY:
            if not names <= LIBRARY[node.module]:
                self.fault("L2", node.lineno, "not of the library that may be used")
        elif node.module not in self.defined:
            self.fault("L2", node.lineno, f"no module {node.module}")
        elif not names <= self.defined[node.module]:
            self.fault("L16", node.lineno, f"not all are defined in {node.module}")
        self.imports.append(node.module)

    def read_node(self, node):
        if isinstance(node, ast.stmt) and not isinstance(node, STATEMENTS):
            self.fault("L6", node.lineno, type(node).__name__)
        for kind, rule in ((ast.Set, "L24"), (ast.SetComp, "L24"), (ast.Await, "L6"), (ast.Yield, "L23"),
                           (ast.YieldFrom, "L23"), (ast.Div, "L7"), (ast.MatMult, "L7"), (ast.NamedExpr, "L7")):
            if isinstance(node, kind):
                self.fault(rule, getattr(node, "lineno", 0), kind.__name__)
        name = "read_" + type(node).__name__.lower()
        if hasattr(self, name):
            getattr(self, name)(node)

    def read_functiondef(self, node):
        if node.end_lineno - node.lineno + 1 > 40:
            self.fault("L10", node.lineno, f"{node.name} has more than 40 lines")
        if node.decorator_list:
            self.fault("L4", node.lineno, "a decorator")
        if node.name.startswith("__") and node.name not in SPECIAL:
            self.fault("L5", node.lineno, node.name)
        if ast.get_docstring(node) is None and node.name not in SPECIAL:
            self.fault("form", node.lineno, f"{node.name} has no docstring")
        self.read_name_of(node.name, node, isinstance(node.parent, ast.ClassDef))
        for part in node.args.args + node.args.kwonlyargs:
            self.read_name_of(part.arg, part, False)
        names = [part.arg for part in node.args.args]
        names += [part.id for part in ast.walk(node) if isinstance(part, ast.Name) and isinstance(part.ctx, ast.Store)]
        for name in names:
            if name in self.top:
                self.fault("L15", node.lineno, f"{name} is an import or a class of this file")

    def read_classdef(self, node):
        self.read_name_of(node.name, node, False)
        if node.decorator_list or node.keywords:
            self.fault("L5", node.lineno, "a decorator or a keyword")
        if ast.get_docstring(node) is None:
            self.fault("form", node.lineno, f"{node.name} has no docstring")

    def read_name_of(self, name, node, is_method):
        if not re.fullmatch(r"_?[A-Za-z][A-Za-z0-9_]*|_|__init__", name):
            self.fault("L12", node.lineno, name)
        if name in BARRED or not is_method and name in dir(builtins):
            self.fault("L15", node.lineno, f"{name} is barred")

    def read_name(self, node):
        if isinstance(node.ctx, ast.Store):
            self.read_name_of(node.id, node, False)
        elif node.id == "_":
            self.fault("L12", node.lineno, "_ is read")
        elif node.id in dir(builtins) and node.id not in BUILTINS:
            self.fault("L8", node.lineno, node.id)
        if node.id in LAZY and not (isinstance(node.parent, ast.Call) and node.parent.func is node):
            self.fault("L22", node.lineno, f"{node.id} is a value")

    def read_attribute(self, node):
        if node.attr in BARRED or node.attr.startswith("__") and node.attr not in SPECIAL:
            self.fault("L17", node.lineno, node.attr)

    def read_call(self, node):
        if isinstance(node.func, ast.Attribute):
            if node.func.attr not in METHODS | self.own_methods:
                self.fault("L25", node.lineno, node.func.attr)
            if node.func.attr in VIEWS and not self.is_eaten(node):
                self.fault("L23", node.lineno, f"{node.func.attr} is not iterated at once")
        elif isinstance(node.func, ast.Name):
            if node.func.id in LAZY and not self.is_eaten(node):
                self.fault("L23", node.lineno, f"{node.func.id} is not iterated at once")
            if node.func.id == "set" and not self.is_hidden(node):
                self.fault("L24", node.lineno, "a set")

    def is_eaten(self, node):
        above = node.parent
        if isinstance(above, (ast.For, ast.comprehension)):
            return above.iter is node
        if isinstance(above, ast.Compare):
            return node in above.comparators and isinstance(above.ops[0], (ast.In, ast.NotIn))
        if isinstance(above, ast.Call) and isinstance(above.func, ast.Name):
            return above.func.id in EATERS or above.func.id == "reversed" and node.func.id == "range"
        return False

    def is_hidden(self, node):
        above = node.parent
        return isinstance(above, ast.Call) and isinstance(above.func, ast.Name) and above.func.id in ("len", "sorted")

    def read_constant(self, node):
        if isinstance(node.value, (float, complex)):
            self.fault("L7", node.lineno, "a float")
        if isinstance(node.value, str) and not self.is_docstring(node) and "%" in node.value:
            self.fault("L27", node.lineno, "a percent sign in a string")
        if isinstance(node.value, str) and not self.is_docstring(node):
            for word in re.findall(r"\w+", node.value):
                if word in BARRED:
                    self.fault("L17", node.lineno, f"{word} in a string")

    def is_docstring(self, node):
        return isinstance(node.parent, ast.Expr)

    def read_binop(self, node):
        if isinstance(node.op, ast.Pow):
            good = isinstance(node.right, ast.Constant) and node.right.value in range(65)
            if not good:
                self.fault("L27", node.lineno, "an exponent that is no literal")

    def read_compare(self, node):
        for op, side in zip(node.ops, node.comparators):
            if isinstance(op, (ast.Is, ast.IsNot)):
                if not (isinstance(side, ast.Constant) and side.value in (None, True, False)):
                    self.fault("L20", node.lineno, "is")

    def read_for(self, node):
        names = {part.id for part in ast.walk(node.iter) if isinstance(part, ast.Name)}
        for part in [inner for row in node.body for inner in ast.walk(row)]:
            changed = None
            if isinstance(part, ast.Call) and isinstance(part.func, ast.Attribute) and part.func.attr in CHANGERS:
                changed = part.func.value
            elif isinstance(part, ast.Call) and isinstance(part.func, ast.Name) and part.func.id.startswith("heap"):
                changed = part.args[0]
            elif isinstance(part, ast.Subscript) and isinstance(part.ctx, (ast.Store, ast.Del)):
                changed = part.value
            while isinstance(changed, (ast.Subscript, ast.Attribute)):
                changed = changed.value
            if isinstance(changed, ast.Name) and changed.id in names:
                self.fault("L23", part.lineno, f"{changed.id} is changed in its loop")

    def read_generatorexp(self, node):
        above = node.parent
        good = isinstance(above, ast.Call) and isinstance(above.func, ast.Name) and above.func.id in EATERS - {"len"}
        if not good and not (isinstance(above, ast.Call) and isinstance(above.func, ast.Attribute)):
            self.fault("L7", node.lineno, "a generator expression")

    def read_raise(self, node):
        if not isinstance(node.exc, ast.Call) or not isinstance(node.exc.func, ast.Name):
            self.fault("L19", node.lineno, "raise makes no error on the spot")


def has_cycle(imports):
    """Return a module that imports itself, directly or through others, or None."""
    for start in imports:
        seen = set()
        waiting = list(imports[start])
        while waiting:
            module = waiting.pop()
            if module == start:
                return start
            if module not in seen:
                seen.add(module)
                waiting += imports.get(module, [])
    return None


def folder_faults(root=ROOT):
    """Return what is wrong with the names and the places of files."""
    faults = []
    known = files(root)
    if len(known) > 100:
        faults.append("L14: more than 100 files")
    for path in known:
        if not re.fullmatch(r"[a-z][a-z0-9_]*\.py|__init__\.py", path.name):
            faults.append(f"{path}: L1: no plain name")
        if path.with_suffix("").is_dir():
            faults.append(f"{path}: L14: a folder has this name, too")
        if not (path.parent / "__init__.py").exists():
            faults.append(f"{path}: L14: no __init__.py beside it")
        if path.stem.startswith("test") or path.stem in dir(builtins) or path.stem in BARRED:
            faults.append(f"{path}: L14: a barred name")
    return faults


def all_faults(root=ROOT):
    """Return all faults that are found."""
    faults = folder_faults(root)
    sources = {path: path.read_text(encoding="utf-8") for path in files(root)}
    own_methods = set()
    defined = {}
    for path, source in sources.items():
        tree = ast.parse(source)
        names = set()
        for node in tree.body:
            if isinstance(node, (ast.FunctionDef, ast.ClassDef)):
                names.add(node.name)
            elif isinstance(node, ast.Assign):
                names |= {target.id for target in node.targets if isinstance(target, ast.Name)}
            if isinstance(node, ast.ClassDef):
                own_methods |= {part.name for part in node.body if isinstance(part, ast.FunctionDef)}
        defined[module_of(path, root)] = names
    imports = {}
    for path, source in sources.items():
        reader = Reader(path.relative_to(root), source, own_methods, defined)
        faults += reader.read()
        imports[module_of(path, root)] = reader.imports
    if has_cycle(imports) is not None:
        faults.append(f"L16: {has_cycle(imports)} imports itself through others")
    return faults
