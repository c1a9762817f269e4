"""The rules of LANGUAGE.md, L1 to L28, as far as a script sees them.

faults(sources) takes the package's files, path within it to text, and answers (rule, path, line) for each fault.
Where a rule leaves a way open that the package doesn't need, the check is narrower than the rule.
"""

import ast
import builtins
import io
import re
import tokenize

PACKAGE = "zonelines"

ERRORS = set("""Exception ValueError TypeError KeyError IndexError LookupError ZeroDivisionError ArithmeticError
    OverflowError RuntimeError NotImplementedError AttributeError StopIteration""".split())
FUNCTIONS = set("""len range enumerate zip min max sum abs sorted reversed int str bool list tuple dict set frozenset
    isinstance ord repr any all divmod""".split())
KEY_FUNCTIONS = set("len int str abs sum min max tuple".split())
METHODS = set("""append clear copy count endswith extend find get index insert isalnum isalpha isdigit islower isspace
    isupper items join keys ljust lower lstrip partition pop remove replace reverse rfind rjust rpartition rsplit rstrip
    setdefault split splitlines startswith strip update upper values zfill bit_length""".split())
CHANGING = set("append clear extend insert pop remove reverse setdefault update".split())
OWN_VALUES = set("count index title find get join lower upper split strip copy add".split())
NO_VALUES = set("items keys values pop update append clear extend insert remove reverse setdefault sort args encode "
                "format".split())
DUNDERS = set("__init__ __eq__ __repr__ __str__ __len__".split())
NOWHERE = set("register mro elements open input version_info with_traceback add_note f_back tb_next co_names".split())
NOT_AS_NAMES = set("""attrgetter breakpoint builtins compile copyright credits delattr dir eval exec exit gc getattr
    globals hasattr help id importlib license locals methodcaller os quit setattr super type vars sys
    __name__""".split())
WORDS = set("""type typing typing_extensions enum Enum IntEnum StrEnum Flag IntFlag Generic Protocol ABC ABCMeta
    namedtuple NamedTuple TypedDict TYPE_CHECKING abstractmethod""".split())
PARTS = ("dataclass", "overload", "contextmanager")
FILE_NAMES = set("test tests testing site conftest sitecustomize usercustomize".split())
KEYWORDS = {"sorted": {"key", "reverse"}, "min": {"key", "default"}, "max": {"key", "default"}, "sum": {"start"},
            "enumerate": {"start"}, "zip": {"strict"}}
WALKED = set("zip enumerate reversed range".split())
WALKED_METHODS = set("items keys values".split())
WALKERS = set("list tuple dict sorted sum any all enumerate zip min max".split())
PYTHONS_OWN = set(dir(builtins))
OWN_MEMBERS = set().union(*[dir(kind) for kind in (str, int, list, dict, set, frozenset, bytes, tuple)])

STATEMENTS = (ast.Assign, ast.AugAssign, ast.If, ast.While, ast.For, ast.Return, ast.Break, ast.Continue, ast.Pass,
              ast.Raise, ast.Try, ast.Expr, ast.FunctionDef, ast.ClassDef, ast.ImportFrom)
EXPRESSIONS = (ast.Constant, ast.List, ast.Tuple, ast.Dict, ast.Set, ast.BinOp, ast.UnaryOp, ast.BoolOp, ast.Compare,
               ast.IfExp, ast.Call, ast.Attribute, ast.Subscript, ast.Slice, ast.ListComp, ast.JoinedStr,
               ast.FormattedValue, ast.Name, ast.Lambda)
OPERATORS = (ast.Add, ast.Sub, ast.Mult, ast.FloorDiv, ast.Mod, ast.Pow, ast.BitAnd, ast.BitOr, ast.BitXor, ast.LShift,
             ast.RShift)


def faults(sources):
    found = []
    trees = {}
    for path, text in sources.items():
        found += file_faults(path, text)
        if path.endswith(".py"):
            trees[path] = ast.parse(text)
    for path, tree in trees.items():
        found += [(rule, path, number) for rule, number in FileCheck(tree, trees).found]
    found += circle_faults(trees)
    found += member_faults(trees)
    return sorted(set(found))


def file_faults(path, text):
    found = []
    for part in path.split("/"):
        stem = part[:-3] if part.endswith(".py") else part
        if not re.fullmatch(r"[a-z0-9_]+", stem):
            found.append(("L1", path, 0))
        if stem in FILE_NAMES | WORDS | PYTHONS_OWN or stem.startswith("test_"):
            found.append(("L14", path, 0))
    if not path.endswith(".py"):
        return found + [("L1", path, 0)]
    rows = text.split("\n")
    if len(rows) > 400:
        found.append(("L10", path, 400))
    for number, row in enumerate(rows, start=1):
        if len(row) > 120 or "\t" in row:
            found.append(("L10", path, number))
        if any(not " " <= sign <= "~" for sign in row):
            found.append(("L14", path, number))
        if set(re.findall(r"\w+", row)) & WORDS or any(part in row for part in PARTS):
            found.append(("L17", path, number))
    for token in tokenize.generate_tokens(io.StringIO(text).readline):
        if token.type == tokenize.STRING and re.search(r"\\[^nt\\'\"]", token.string.replace("\\\\", "")):
            found.append(("L27", path, token.start[0]))
        if token.type == tokenize.NUMBER and len(token.string) > 900:
            found.append(("L27", path, token.start[0]))
    return found


def module_of(path):
    return PACKAGE + "." + path[:-3].replace("/", ".")


def drawn(tree):
    return [node.module for node in tree.body if isinstance(node, ast.ImportFrom)]


def circle_faults(trees):
    """L16: no file draws from itself, in whatever many steps."""
    draws = {module_of(path): set(drawn(tree)) for path, tree in trees.items()}
    found = []
    for path in trees:
        reached, ahead = set(), [module_of(path)]
        while ahead:
            for module in draws.get(ahead.pop(), ()):
                if module not in reached:
                    reached.add(module)
                    ahead.append(module)
        if module_of(path) in reached:
            found.append(("L16", path, 0))
    return found


def classes_of(trees):
    return [(path, node) for path, tree in trees.items() for node in tree.body if isinstance(node, ast.ClassDef)]


def stored_attributes(node):
    return [part for part in ast.walk(node) if isinstance(part, ast.Attribute) and isinstance(part.ctx, ast.Store)]


def member_faults(trees):
    """L18 and L26: the names of methods and of values."""
    found = []
    methods = {part.name for _, node in classes_of(trees) for part in node.body if isinstance(part, ast.FunctionDef)}
    for path, node in classes_of(trees):
        names = [part.name for part in node.body if isinstance(part, ast.FunctionDef)]
        if len(names) != len(set(names)):
            found.append(("L18", path, node.lineno))
        for name in names:
            if name in OWN_MEMBERS - DUNDERS - METHODS - {"add", "discard"}:
                found.append(("L26", path, node.lineno))
    for path, tree in trees.items():
        for part in stored_attributes(tree):
            if part.attr in methods:
                found.append(("L18", path, part.lineno))
            if part.attr in NO_VALUES or part.attr in OWN_MEMBERS - OWN_VALUES:
                found.append(("L26", path, part.lineno))
    return found


def is_plain(node, functions, inside=False):
    if isinstance(node, ast.UnaryOp) and isinstance(node.op, ast.USub):
        return isinstance(node.operand, ast.Constant) and is_plain(node.operand, functions)
    if isinstance(node, ast.Constant):
        return node.value is None or type(node.value) in (int, str, bool)
    if isinstance(node, ast.Tuple):
        return all(is_plain(part, functions, True) for part in node.elts)
    if isinstance(node, ast.List) and not inside:
        return all(is_plain(part, functions, True) for part in node.elts)
    if isinstance(node, ast.Dict) and not inside:
        return None not in node.keys and all(is_plain(part, functions, True) for part in node.keys + node.values)
    return inside and isinstance(node, ast.Name) and node.id in functions


def is_docstring(node):
    return isinstance(node, ast.Expr) and isinstance(node.value, ast.Constant) and type(node.value.value) is str


class FileCheck:
    """All rules that are seen within one file."""

    def __init__(self, tree, trees):
        self.found = []
        self.trees = trees
        self.parents = {}
        self.imports = {}
        self.functions = set()
        self.classes = set()
        self.constants = {}
        for node in ast.walk(tree):
            for child in ast.iter_child_nodes(node):
                self.parents[child] = node
        self.methods = {part.name for _, node in classes_of(trees) for part in node.body
                        if isinstance(part, ast.FunctionDef)}
        self.own_classes = {node.name for _, node in classes_of(trees)}
        self.check_top(tree)
        for node in ast.walk(tree):
            self.check(node)

    def fault(self, rule, node):
        self.found.append((rule, getattr(node, "lineno", 0)))

    def check_top(self, tree):
        bound = []
        for place, node in enumerate(tree.body):
            if isinstance(node, ast.ImportFrom):
                if any(not isinstance(other, ast.ImportFrom) and not is_docstring(other) for other in tree.body[:place]):
                    self.fault("L2", node)
                bound += [name.asname or name.name for name in node.names]
                self.imports.update({name.asname or name.name: node.module for name in node.names})
            elif isinstance(node, (ast.FunctionDef, ast.ClassDef)):
                bound.append(node.name)
                (self.functions if isinstance(node, ast.FunctionDef) else self.classes).add(node.name)
            elif isinstance(node, ast.Assign) and isinstance(node.targets[0], ast.Name):
                bound.append(node.targets[0].id)
                self.constants[node.targets[0].id] = node.value
                if not is_plain(node.value, self.functions):
                    self.fault("L3", node)
            elif not (place == 0 and is_docstring(node)):
                self.fault("L3", node)
        if len(bound) != len(set(bound)):
            self.fault("L15", tree)

    def check(self, node):
        if isinstance(node, ast.stmt) and not isinstance(node, STATEMENTS):
            self.fault("L6", node)
        if isinstance(node, ast.expr) and not isinstance(node, EXPRESSIONS):
            self.fault("L7", node)
        if isinstance(node, ast.operator) and not isinstance(node, OPERATORS):
            self.fault("L7", self.parents[node])
        method = getattr(self, "check_" + type(node).__name__.lower(), None)
        if method is not None:
            method(node)

    def check_import(self, node):
        self.fault("L2", node)

    def check_importfrom(self, node):
        if node not in self.parents or not isinstance(self.parents[node], ast.Module) or node.level != 0:
            self.fault("L2", node)
        if node.module == "__future__":
            return
        path = (node.module or "")[len(PACKAGE) + 1:].replace(".", "/") + ".py"
        if not (node.module or "").startswith(PACKAGE + ".") or path not in self.trees or path == "__main__.py":
            self.fault("L2", node)
            return
        defined = [part.name for part in self.trees[path].body if isinstance(part, (ast.FunctionDef, ast.ClassDef))]
        defined += [part.targets[0].id for part in self.trees[path].body if isinstance(part, ast.Assign)]
        if any(name.name not in defined for name in node.names):
            self.fault("L16", node)

    def check_functiondef(self, node):
        if node.decorator_list:
            self.fault("L4", node)
        if node.end_lineno - node.lineno + 1 > 40:
            self.fault("L10", node)
        if node.returns is not None:
            self.fault("L21", node)
        self.check_binding(node.name, node, is_member=isinstance(self.parents[node], ast.ClassDef))
        returns = [part for part in ast.walk(node) if isinstance(part, ast.Return)]
        if node.name == "__init__" and any(part.value is not None for part in returns):
            self.fault("L28", node)
        if node.name in DUNDERS - {"__init__"}:
            self.fault("L28", node)

    def check_lambda(self, node):
        same = [other for other in self.parents if isinstance(other, ast.Lambda) and other is not node
                and other.lineno == node.lineno and ast.dump(other.args) == ast.dump(node.args)]
        if same:
            self.fault("L13", node)

    def check_arguments(self, node):
        if node.vararg or node.kwarg or node.kwonlyargs or node.posonlyargs:
            self.fault("L4", self.parents[node])
        if any(not is_plain(value, ()) for value in node.defaults):
            self.fault("L4", self.parents[node])

    def check_arg(self, node):
        if node.annotation is not None:
            self.fault("L21", node)
        self.check_binding(node.arg, node)

    def check_classdef(self, node):
        if not isinstance(self.parents[node], ast.Module):
            self.fault("L15", node)
        if node.decorator_list or node.keywords or len(node.bases) > 1:
            self.fault("L5", node)
        bases = [base.id for base in node.bases if isinstance(base, ast.Name)]
        if any(base not in (self.own_classes | ERRORS) - {"StopIteration", "AttributeError"} for base in bases):
            self.fault("L18", node)
        for place, part in enumerate(node.body):
            if not isinstance(part, ast.FunctionDef) and not (place == 0 and is_docstring(part)):
                self.fault("L5", part)
        self.check_binding(node.name, node)

    def check_binding(self, name, node, is_member=False):
        """A name that is given a meaning here."""
        if not re.fullmatch(r"[A-Za-z][A-Za-z0-9_]*", name) and not (is_member and name in DUNDERS):
            self.fault("L12", node)
        if name in NOWHERE:
            self.fault("L17", node)
        if is_member:
            return
        if name in NOT_AS_NAMES:
            self.fault("L17", node)
        if name in PYTHONS_OWN:
            self.fault("L15", node)
        at_top = isinstance(self.parents[node], ast.Module)
        if not at_top and not self.is_top_constant(node) and name in self.classes | set(self.imports):
            self.fault("L15", node)

    def is_top_constant(self, node):
        parent = self.parents[node]
        return isinstance(parent, ast.Assign) and isinstance(self.parents[parent], ast.Module)

    def check_name(self, node):
        parent = self.parents[node]
        if not isinstance(node.ctx, ast.Load):
            self.check_binding(node.id, node)
            return
        if node.id in NOWHERE | NOT_AS_NAMES:
            self.fault("L17", node)
        elif node.id in PYTHONS_OWN - FUNCTIONS - ERRORS:
            self.fault("L8", node)
        elif node.id in FUNCTIONS:
            self.check_own_function(node, parent)
        elif node.id in self.own_classes:
            self.check_class_use(node, parent)
        elif isinstance(self.constants.get(node.id), (ast.List, ast.Dict)):
            self.check_table_use(node, parent)

    def check_own_function(self, node, parent):
        called = isinstance(parent, ast.Call) and parent.func is node
        as_key = isinstance(parent, ast.keyword) and parent.arg == "key" and node.id in KEY_FUNCTIONS
        in_isinstance = self.is_in_isinstance(node, parent)
        if not (called or as_key or in_isinstance):
            self.fault("L22", node)

    def is_in_isinstance(self, node, parent):
        call = self.parents[parent] if isinstance(parent, ast.Tuple) else parent
        return isinstance(call, ast.Call) and isinstance(call.func, ast.Name) and call.func.id == "isinstance"

    def check_class_use(self, node, parent):
        called = isinstance(parent, ast.Call) and parent.func is node
        named = isinstance(parent, (ast.ClassDef, ast.ExceptHandler, ast.Raise)) or self.is_in_isinstance(node, parent)
        base_call = isinstance(parent, ast.Attribute) and parent.attr == "__init__"
        if not (called or named or base_call):
            self.fault("L18", node)

    def check_table_use(self, node, parent):
        """A list or dict of the file's top is only read."""
        indexed = isinstance(parent, ast.Subscript) and parent.value is node and isinstance(parent.ctx, ast.Load)
        compared = isinstance(parent, ast.Compare)
        walked = isinstance(parent, (ast.For, ast.comprehension)) and parent.iter is node
        handed = isinstance(parent, ast.Call) and isinstance(parent.func, ast.Name) and parent.func.id in FUNCTIONS
        asked = isinstance(parent, ast.Attribute) and parent.attr in WALKED_METHODS | {"get", "count", "index", "copy"}
        if not (indexed or compared or walked or handed or asked):
            self.fault("L15", node)

    def check_attribute(self, node):
        parent = self.parents[node]
        called = isinstance(parent, ast.Call) and parent.func is node
        if node.attr in NOWHERE or node.attr in ("format", "format_map"):
            self.fault("L17", node)
        if node.attr.startswith("_") and node.attr != "__init__":
            self.fault("L12", node)
        if called and node.attr not in METHODS | self.methods | {"__init__"}:
            self.fault("L25", node)
        if not called and node.attr in (METHODS - OWN_VALUES) | self.methods:
            self.fault("L25", node)
        if isinstance(node.ctx, ast.Store) and not isinstance(node.value, ast.Name):
            self.fault("L18", node)
        if isinstance(node.ctx, ast.Store) and isinstance(node.value, ast.Name) and (
                node.value.id in self.classes | self.functions | set(self.imports) | set(self.constants)):
            self.fault("L18", node)

    def check_call(self, node):
        own_name = isinstance(node.func, ast.Name) and node.func.id in FUNCTIONS | ERRORS
        for keyword in node.keywords:
            if keyword.arg is None:
                self.fault("L7", node)
            elif own_name and keyword.arg not in KEYWORDS.get(node.func.id, set()):
                self.fault("L22", node)
            elif isinstance(node.func, ast.Attribute) and node.func.attr in METHODS:
                self.fault("L22", node)
            elif keyword.arg in ("reverse", "strict") and not isinstance(keyword.value, ast.Constant):
                self.fault("L22", node)
        by_name = isinstance(node.func, ast.Name) and node.func.id in WALKED
        by_method = isinstance(node.func, ast.Attribute) and node.func.attr in WALKED_METHODS
        if (by_name or by_method) and not self.is_walked(node):
            self.fault("L23", node)
        if isinstance(node.func, ast.Name) and node.func.id in ("set", "frozenset"):
            self.check_set_use(node)

    def is_walked(self, node):
        parent = self.parents[node]
        if isinstance(parent, (ast.For, ast.comprehension)):
            return parent.iter is node
        if not isinstance(parent, ast.Call) or node not in parent.args:
            return False
        if isinstance(parent.func, ast.Attribute):
            return parent.func.attr == "join" and isinstance(parent.func.value, ast.Constant)
        if not isinstance(parent.func, ast.Name) or parent.func.id not in WALKERS:
            return False
        return parent.func.id == "zip" or parent.args[0] is node

    def check_set(self, node):
        self.check_set_use(node)
        if len(node.elts) >= 3 and not isinstance(self.parents[node], ast.Compare):
            self.fault("L13", node)

    def check_set_use(self, node):
        outer, inner = self.parents[node], node
        while isinstance(outer, ast.BinOp):
            outer, inner = self.parents[outer], outer
        if isinstance(outer, ast.Compare):
            return
        if not (isinstance(outer, ast.Call) and isinstance(outer.func, ast.Name)
                and outer.func.id in ("sorted", "len") and not outer.keywords):
            self.fault("L24", node)

    def check_assign(self, node):
        if len(node.targets) != 1:
            self.fault("L6", node)

    def check_for(self, node):
        if node.orelse:
            self.fault("L6", node)
        walked = {ast.dump(part) for part in ast.walk(node.iter) if isinstance(part, (ast.Name, ast.Attribute))}
        for part in [inner for statement in node.body for inner in ast.walk(statement)]:
            changed = None
            if isinstance(part, ast.Call) and isinstance(part.func, ast.Attribute) and part.func.attr in CHANGING:
                changed = part.func.value
            if isinstance(part, ast.Subscript) and isinstance(part.ctx, ast.Store):
                changed = part.value
            if changed is not None and ast.dump(changed) in walked:
                self.fault("L23", part)

    def check_while(self, node):
        if node.orelse:
            self.fault("L6", node)

    def check_try(self, node):
        if node.finalbody:
            self.fault("L6", node)

    def check_excepthandler(self, node):
        free = self.own_classes | {"KeyError", "ZeroDivisionError", "StopIteration"}
        if not isinstance(node.type, ast.Name) or node.type.id not in free:
            self.fault("L19", node)

    def check_raise(self, node):
        if not isinstance(node.exc, ast.Call):
            self.fault("L19", node)

    def check_expr(self, node):
        parent = self.parents[node]
        first = isinstance(parent, (ast.Module, ast.FunctionDef, ast.ClassDef)) and parent.body[0] is node
        if not isinstance(node.value, ast.Call) and not (first and is_docstring(node)):
            self.fault("L6", node)

    def check_constant(self, node):
        if node.value is not None and type(node.value) not in (int, str, bool):
            self.fault("L7", node)
        if type(node.value) is str and "%" in node.value:
            self.fault("L27", node)

    def check_binop(self, node):
        if isinstance(node.op, ast.Pow) and not (isinstance(node.right, ast.Constant)
                                                 and type(node.right.value) is int and 0 <= node.right.value <= 64):
            self.fault("L27", node)

    def check_listcomp(self, node):
        if len(node.generators) != 1 or len(node.generators[0].ifs) > 1:
            self.fault("L7", node)

    def check_formattedvalue(self, node):
        if not isinstance(node.value, ast.Name) or node.format_spec is not None or node.conversion not in (-1, 114):
            self.fault("L7", node)

    def check_compare(self, node):
        sides = [node.left] + node.comparators
        for place, operator in enumerate(node.ops):
            if isinstance(operator, (ast.Is, ast.IsNot)):
                pair = sides[place:place + 2]
                if not any(isinstance(side, ast.Constant) and side.value in (None, True, False) for side in pair):
                    self.fault("L20", node)
