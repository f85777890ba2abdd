"""A check of the package against the rules of shared/LANGUAGE.md that its syntax shows.

It is narrower than the rules where the package does not need what they allow:
it knows no decorators, generators, handlers or operators, for instance.
"""

import ast
import builtins
import re

ALLOWED_BUILTINS = set(
    "len range enumerate zip min max sum abs sorted reversed int str bool bytes list tuple dict set isinstance ord repr "
    "any all divmod Exception ValueError TypeError KeyError IndexError LookupError NotImplementedError".split())
LIBRARY = {
    "heapq": {"heappush", "heappop", "heapify", "heapreplace", "heappushpop"},
    "math": {"gcd", "lcm", "isqrt", "comb", "perm", "factorial"},
    "itertools": {"product", "combinations", "permutations"},
}
METHODS = set(
    "append clear copy count endswith extend find get index insert isalnum isalpha isdigit islower isspace isupper "
    "items join keys ljust lower lstrip partition pop remove replace reverse rfind rjust rpartition rsplit rstrip "
    "setdefault split splitlines startswith strip update upper values zfill bit_length isascii isdecimal "
    "removeprefix removesuffix add discard".split())
BARRED_NAMES = set(
    "register mro elements open input law version_info with_traceback add_note attrgetter breakpoint builtins compile "
    "copyright credits delattr dir eval exec exit gc getattr globals hasattr help id importlib license locals "
    "methodcaller os quit setattr super type vars sys __name__ _cold _tuplegetter _outside _record _written_out "
    "_member_names".split())
BARRED_WORDS = set(
    "type typing typing_extensions enum Enum IntEnum StrEnum Flag IntFlag Generic Protocol ABC ABCMeta namedtuple "
    "NamedTuple TypedDict TYPE_CHECKING abstractmethod".split())
BARRED_NODES = (
    ast.Global, ast.AsyncFunctionDef, ast.AsyncFor, ast.AsyncWith, ast.Await, ast.GeneratorExp, ast.Yield,
    ast.YieldFrom, ast.Div, ast.MatMult, ast.ExceptHandler, ast.With, ast.Nonlocal, ast.Match, ast.NamedExpr,
)
ITERATED_AT_ONCE = {"range", "zip", "enumerate", "reversed", "items", "keys", "values"} | LIBRARY["itertools"]
ITERATING = {"list", "tuple", "dict", "sorted", "sum", "any", "all", "enumerate", "zip", "min", "max"}
DUNDERS = {"__init__", "__eq__"}


def parents_of(tree):
    return {child: node for node in ast.walk(tree) for child in ast.iter_child_nodes(node)}


def called_name(node):
    if isinstance(node, ast.Call):
        if isinstance(node.func, ast.Name):
            return node.func.id
        if isinstance(node.func, ast.Attribute) and node.func.attr in ("items", "keys", "values"):
            return node.func.attr
    return None


def bound_names(tree):
    """All names that are bound anywhere but as attributes."""
    for node in ast.walk(tree):
        if isinstance(node, (ast.FunctionDef, ast.ClassDef)):
            yield node, node.name
        elif isinstance(node, ast.arg):
            yield node, node.arg
        elif isinstance(node, ast.Name) and isinstance(node.ctx, ast.Store):
            yield node, node.id
        elif isinstance(node, ast.ImportFrom):
            for name in node.names:
                yield node, name.asname or name.name


def check_lines(text):
    lines = text.split("\n")
    if len(lines) - 1 > 399:
        yield "L10", 1
    for at, line in enumerate(lines):
        if len(line) > 120 or "\t" in line:
            yield "L10", at + 1
        if not all(" " <= sign <= "~" for sign in line):
            yield "L14", at + 1


def check_module(tree):
    """L2, L3, L15, L16: what stands at module level."""
    seen_other = False
    names = []
    for at, node in enumerate(tree.body):
        docstring = at == 0 and isinstance(node, ast.Expr) and isinstance(node.value, ast.Constant)
        if isinstance(node, ast.ImportFrom):
            whole = node.module or ""
            own = re.fullmatch(r"silencers\.[a-z_]+", whole)
            lent = whole in LIBRARY and all(name.name in LIBRARY[whole] for name in node.names)
            if node.level or seen_other or not (own or lent) or any(name.asname for name in node.names):
                yield "L2", node.lineno
            names += [name.name for name in node.names]
        elif isinstance(node, (ast.FunctionDef, ast.ClassDef)):
            seen_other = True
            names.append(node.name)
        elif isinstance(node, ast.Assign) and len(node.targets) == 1 and isinstance(node.targets[0], ast.Name):
            seen_other = True
            names.append(node.targets[0].id)
            if any(isinstance(inner, ast.Call) for inner in ast.walk(node)):
                yield "L3", node.lineno
        elif not docstring:
            yield "L3", node.lineno
    if len(names) != len(set(names)):
        yield "L15", 1


def check_nodes(tree):
    """L4 to L8, L10, L20, L27, L28: single nodes."""
    for node in ast.walk(tree):
        line = getattr(node, "lineno", 0)
        if isinstance(node, BARRED_NODES):
            yield "L6", line
        if isinstance(node, ast.Import):
            yield "L2", line
        if isinstance(node, (ast.FunctionDef, ast.ClassDef)) and node.decorator_list:
            yield "L4", line
        if isinstance(node, ast.FunctionDef) and node.end_lineno - node.lineno + 1 > 40:
            yield "L10", line
        if isinstance(node, ast.Constant) and isinstance(node.value, (float, complex)):
            yield "L7", line
        if isinstance(node, ast.Constant) and isinstance(node.value, str) and "%" in node.value:
            yield "L27", line
        if isinstance(node, ast.BinOp) and isinstance(node.op, ast.Pow) and not isinstance(node.right, ast.Constant):
            yield "L27", line
        if isinstance(node, ast.Compare):
            for op, right in zip(node.ops, node.comparators):
                known = isinstance(right, ast.Constant) and right.value in (None, True, False)
                if isinstance(op, (ast.Is, ast.IsNot)) and not known:
                    yield "L20", line
        if isinstance(node, ast.Raise) and not isinstance(node.exc, ast.Call):
            yield "L19", line


def check_delete(tree):
    """L6: items and slices alone are deleted here."""
    for node in ast.walk(tree):
        if isinstance(node, ast.Delete) and not all(isinstance(target, ast.Subscript) for target in node.targets):
            yield "L6", node.lineno


def check_names(tree, own_names):
    known = {name for _, name in bound_names(tree)}
    module_names = {node.name for node in tree.body if isinstance(node, ast.ClassDef)}
    module_names |= {name.name for node in tree.body if isinstance(node, ast.ImportFrom) for name in node.names}
    methods = {inner for node in ast.walk(tree) if isinstance(node, ast.ClassDef) for inner in node.body}
    for node, name in bound_names(tree):
        if not re.fullmatch(r"_|_?[A-Za-z][A-Za-z0-9_]*", name) and not (node in methods and name in DUNDERS):
            yield "L12", node.lineno
        if hasattr(builtins, name) and node not in methods:
            yield "L15", node.lineno
        if name in BARRED_NAMES or re.match("_wall|_pe_|_dcw_|_enum_|_cm_|_twin_re_|_lay_|_law_|_stub_|_sre", name):
            yield "L17", node.lineno
        local = not (isinstance(node, (ast.ClassDef, ast.ImportFrom)))
        if local and node not in methods and name in module_names:
            yield "L15", node.lineno
    for node in ast.walk(tree):
        if isinstance(node, ast.Name) and isinstance(node.ctx, ast.Load):
            if node.id == "_" or node.id not in known and node.id not in ALLOWED_BUILTINS:
                yield "L8", node.lineno
        if isinstance(node, ast.Attribute):
            if node.attr not in METHODS and node.attr not in own_names:
                yield "L25", node.lineno
            if node.attr in BARRED_NAMES | {"format", "format_map", "args", "sort"} or node.attr.startswith("__"):
                yield "L17", node.lineno


def check_words(tree):
    """L17: the words that are barred outside of comments and docstrings."""
    words = [(node, name) for node, name in bound_names(tree)]
    words += [(node, node.id) for node in ast.walk(tree) if isinstance(node, ast.Name)]
    words += [(node, node.attr) for node in ast.walk(tree) if isinstance(node, ast.Attribute)]
    docs = {node.value for node in ast.walk(tree) if isinstance(node, ast.Expr)}
    for node in ast.walk(tree):
        if isinstance(node, ast.Constant) and isinstance(node.value, str) and node not in docs:
            words += [(node, word) for word in re.findall(r"\w+", node.value)]
    for node, word in words:
        if word in BARRED_WORDS or re.search("dataclass|overload|contextmanager", word):
            yield "L17", node.lineno


def check_classes(tree):
    """L5, L18, L28: dunder methods, and names that are a method and an attribute."""
    for node in ast.walk(tree):
        if not isinstance(node, ast.ClassDef):
            continue
        methods = [inner.name for inner in node.body if isinstance(inner, ast.FunctionDef)]
        assigned = {inner.attr for inner in ast.walk(node)
                    if isinstance(inner, ast.Attribute) and isinstance(inner.ctx, ast.Store)}
        if len(methods) != len(set(methods)) or assigned & set(methods):
            yield "L18", node.lineno
        if any(name.startswith("__") and name not in DUNDERS for name in methods):
            yield "L5", node.lineno
        for inner in node.body:
            plain = isinstance(inner, ast.FunctionDef) or isinstance(inner, ast.Expr)
            if not plain:
                yield "L5", inner.lineno
            if isinstance(inner, ast.FunctionDef) and inner.name == "__init__":
                if any(isinstance(deep, ast.Return) for deep in ast.walk(inner)):
                    yield "L28", inner.lineno


def check_iterated(tree):
    """L22, L23, L24: ranges and the like are iterated at once, sets and builtins stand where they may."""
    parents = parents_of(tree)
    for node in ast.walk(tree):
        parent = parents.get(node)
        name = called_name(node)
        around = called_name(parent)
        if name in ITERATED_AT_ONCE:
            in_loop = isinstance(parent, (ast.For, ast.comprehension)) and parent.iter is node
            taken = around in ITERATING or around in LIBRARY["itertools"] and name not in LIBRARY["itertools"]
            if not in_loop and not (taken and parent.args[0] is node):
                yield "L23", node.lineno
        if name == "set" or isinstance(node, (ast.Set, ast.SetComp)):
            tested = isinstance(parent, ast.Compare) and isinstance(parent.ops[0], (ast.In, ast.NotIn, ast.Eq, ast.NotEq))
            if not tested and around not in ("len", "sorted"):
                yield "L24", node.lineno
        if name in ALLOWED_BUILTINS and isinstance(node, ast.Call):
            allowed = {"sorted": {"key", "reverse"}, "min": {"key", "default"}, "max": {"key", "default"},
                       "sum": {"start"}, "enumerate": {"start"}, "zip": {"strict"}}
            if {keyword.arg for keyword in node.keywords} - allowed.get(name, set()):
                yield "L22", node.lineno
        if isinstance(node, ast.Name) and isinstance(node.ctx, ast.Load) and node.id in ALLOWED_BUILTINS:
            is_called = isinstance(parent, ast.Call) and parent.func is node
            judged = isinstance(parent, ast.Tuple) or called_name(parent) == "isinstance"
            if not is_called and not judged and not isinstance(parent, (ast.ClassDef, ast.keyword)):
                yield "L22", node.lineno


def own_attributes(trees):
    """The names of all methods and attributes that the package defines."""
    found = set()
    for tree in trees:
        for node in ast.walk(tree):
            if isinstance(node, ast.ClassDef):
                found |= {inner.name for inner in node.body if isinstance(inner, ast.FunctionDef)}
            if isinstance(node, ast.Attribute) and isinstance(node.ctx, ast.Store):
                found.add(node.attr)
    return found


def complaints(text, own_names):
    """The pairs (rule, line) that the text of a file breaks."""
    tree = ast.parse(text)
    found = list(check_lines(text))
    for check in (check_module, check_nodes, check_delete, check_words, check_classes, check_iterated):
        found += check(tree)
    found += check_names(tree, own_names)
    return sorted(set(found))


def imports_of(tree):
    """The pairs (module, name) of what a file imports from the package."""
    return [(node.module, name.name) for node in tree.body if isinstance(node, ast.ImportFrom)
            for name in node.names if node.module.startswith("silencers")]
