"""What of the rules L1 to L28 can be seen in a file's tree and text: finds the lines outside them."""

import ast
import builtins
import re

PACKAGE = "chainhouse"
OWN_NAMES = set(
    "len range enumerate zip min max sum abs sorted reversed int str bool list tuple dict set frozenset isinstance ord "
    "repr any all divmod Exception ValueError TypeError KeyError IndexError LookupError ZeroDivisionError "
    "ArithmeticError OverflowError RuntimeError NotImplementedError AttributeError StopIteration".split()
)
OWN_METHODS = set(
    "append clear copy count endswith extend find get index insert isalnum isalpha isdigit islower isspace isupper items "
    "join keys ljust lower lstrip partition pop remove replace reverse rfind rjust rpartition rsplit rstrip setdefault "
    "split splitlines startswith strip update upper values zfill bit_length".split()
)
# L26: beyond those of L25 only these of Python's own may be names of methods and of values.
VALUE_NAMES = set("count index title find get join lower upper split strip copy add".split())
METHOD_NAMES = OWN_METHODS | {"add", "discard"}
KINDS = (str, int, list, dict, set, bytes)
TAKEN = {name for kind in KINDS for name in dir(kind)} | {"args", "format"}
SPECIAL_METHODS = {"__init__", "__eq__", "__repr__", "__str__", "__len__"}
NEVER = set(
    "register mro elements open input version_info with_traceback add_note format format_map f_back f_code f_globals "
    "f_locals f_builtins tb_next tb_frame co_names co_code".split()
)
NEVER_NAMES = set(
    "attrgetter breakpoint builtins compile copyright credits delattr dir eval exec exit gc getattr globals hasattr help "
    "id importlib license locals methodcaller os quit setattr super type vars sys chr".split()
)
WORDS = (
    r"\b(type|typing|typing_extensions|enum|Enum|IntEnum|StrEnum|Flag|IntFlag|Generic|Protocol|ABC|ABCMeta|namedtuple|"
    r"NamedTuple|TypedDict|TYPE_CHECKING|abstractmethod)\b|dataclass|overload|contextmanager"
)
FILE_NAMES = set("test tests testing site conftest sitecustomize usercustomize".split())
STATEMENTS = (
    ast.FunctionDef, ast.ClassDef, ast.Assign, ast.AugAssign, ast.If, ast.While, ast.For, ast.Return, ast.Break,
    ast.Continue, ast.Pass, ast.Raise, ast.Try, ast.Expr, ast.ImportFrom,
)
EXPRESSIONS = (
    ast.Constant, ast.Name, ast.Attribute, ast.Subscript, ast.Slice, ast.Call, ast.List, ast.Tuple, ast.Dict, ast.Set,
    ast.BinOp, ast.UnaryOp, ast.BoolOp, ast.Compare, ast.IfExp, ast.ListComp, ast.JoinedStr, ast.FormattedValue,
    ast.Lambda,
)
WALKED = ("zip", "enumerate", "reversed", "range")
WALKERS = ("list", "tuple", "dict", "sorted", "sum", "any", "all", "enumerate", "zip", "min", "max")


def is_text(statement):
    return isinstance(statement, ast.Expr) and isinstance(statement.value, ast.Constant) and isinstance(
        statement.value.value, str
    )


def is_plain_value(value):
    if isinstance(value, (ast.List, ast.Tuple)):
        return all(is_plain_value(part) for part in value.elts)
    if isinstance(value, ast.Dict):
        return all(is_plain_value(part) for part in value.keys + value.values)
    if isinstance(value, ast.UnaryOp):
        return isinstance(value.op, ast.USub) and is_plain_value(value.operand)
    return isinstance(value, (ast.Constant, ast.Name))


def file_name_faults(name):
    stem = name[:-3]
    plain = re.fullmatch(r"[a-z][a-z0-9_]*\.py", name) or name in ("__init__.py", "__main__.py")
    if not plain:
        return [(0, "L1", name)]
    if stem in FILE_NAMES or stem.startswith("test_") or stem in dir(builtins) or re.fullmatch(WORDS, stem):
        return [(0, "L14", name)]
    return []


def text_faults(text):
    for number, line in enumerate(text.split("\n"), start=1):
        if len(line) > 120:
            yield number, "L10", "a long line"
        if any(not " " <= sign <= "~" for sign in line):
            yield number, "L14", "a sign"
        if re.search(WORDS, line):
            yield number, "L17", "a word"
    if len(text.split("\n")) > 401:
        yield 401, "L10", "a long file"


def top_faults(tree):
    seen = {}
    for place, node in enumerate(tree.body):
        names = [node.name] if isinstance(node, (ast.FunctionDef, ast.ClassDef)) else []
        if isinstance(node, ast.ImportFrom):
            names = [alias.asname or alias.name for alias in node.names]
        if isinstance(node, ast.Assign):
            names = [target.id for target in node.targets if isinstance(target, ast.Name)]
            if not is_plain_value(node.value) or len(names) != len(node.targets):
                yield node.lineno, "L3", "no plain value"
        if not names and not (place == 0 and is_text(node)):
            yield node.lineno, "L3", "a statement at the top"
        for name in names:
            if name in seen:
                yield node.lineno, "L15", name
            seen[name] = True


def statement_faults(node, at_top):
    if isinstance(node, ast.Import):
        yield node.lineno, "L2", "import"
    elif not isinstance(node, STATEMENTS):
        yield node.lineno, "L6", node.__class__.__name__
    if isinstance(node, ast.Expr) and not isinstance(node.value, ast.Call) and not (at_top and is_text(node)):
        yield node.lineno, "L6", "a value by itself"
    if isinstance(node, (ast.While, ast.For)) and node.orelse:
        yield node.lineno, "L6", "else behind a loop"
    if isinstance(node, ast.Try) and (node.finalbody or not node.handlers):
        yield node.lineno, "L6", "finally"
    if isinstance(node, ast.Assign) and (len(node.targets) != 1 or isinstance(node.targets[0], (ast.Tuple, ast.List))):
        yield node.lineno, "L6", "several targets"
    if isinstance(node, ast.ImportFrom):
        whole = node.module and re.fullmatch(PACKAGE + r"\.[a-z][a-z0-9_]*", node.module)
        if not at_top or node.level or not whole or any(alias.name == "*" for alias in node.names):
            yield node.lineno, "L2", str(node.module)
    if isinstance(node, ast.FunctionDef):
        yield from function_faults(node)
    if isinstance(node, ast.ClassDef):
        yield from class_faults(node, at_top)
    if isinstance(node, ast.Try):
        yield from handler_faults(node)


def function_faults(node):
    plain = node.args
    if node.decorator_list or plain.vararg or plain.kwarg or plain.kwonlyargs or plain.posonlyargs:
        yield node.lineno, "L4", node.name
    if node.end_lineno - node.lineno + 1 > 40:
        yield node.lineno, "L10", node.name
    if not all(is_plain_value(default) for default in plain.defaults):
        yield node.lineno, "L4", "a default"
    if node.returns or any(each.annotation for each in plain.args):
        yield node.lineno, "L21", node.name


def class_faults(node, at_top):
    if not at_top:
        yield node.lineno, "L15", "a class within"
    if node.decorator_list or node.keywords or len(node.bases) > 1:
        yield node.lineno, "L5", node.name
    names = [part.name for part in node.body if isinstance(part, ast.FunctionDef)]
    if len(set(names)) != len(names):
        yield node.lineno, "L18", "a method twice"
    for name in names:
        if name.startswith("__") and name not in SPECIAL_METHODS:
            yield node.lineno, "L5", name
        if name in TAKEN and name not in METHOD_NAMES and name not in SPECIAL_METHODS:
            yield node.lineno, "L26", name
    for part in node.body:
        if not isinstance(part, (ast.FunctionDef, ast.Pass)) and not (part is node.body[0] and is_text(part)):
            yield part.lineno, "L5", "a value in a class"


def handler_faults(node):
    for handler in node.handlers:
        kinds = handler.type.elts if isinstance(handler.type, ast.Tuple) else [handler.type]
        for kind in kinds:
            if not isinstance(kind, ast.Name) or kind.id in ("Exception", "TypeError"):
                yield handler.lineno, "L19", "except"


def value_faults(node, owned):
    if not isinstance(node, EXPRESSIONS):
        yield node.lineno, "L7", node.__class__.__name__
    if isinstance(node, ast.Constant):
        if isinstance(node.value, (float, bytes, complex)) or node.value is Ellipsis:
            yield node.lineno, "L7", repr(node.value)
        if isinstance(node.value, str) and "%" in node.value:
            yield node.lineno, "L27", "a sign within a text"
    if isinstance(node, ast.BinOp) and isinstance(node.op, (ast.Div, ast.MatMult)):
        yield node.lineno, "L7", "/"
    if isinstance(node, ast.BinOp) and isinstance(node.op, ast.Pow):
        written = isinstance(node.right, ast.Constant) and isinstance(node.right.value, int)
        if not written or not 0 <= node.right.value <= 64:
            yield node.lineno, "L27", "an exponent"
    if isinstance(node, ast.ListComp) and (len(node.generators) > 1 or len(node.generators[0].ifs) > 1):
        yield node.lineno, "L7", "a comprehension"
    if isinstance(node, ast.FormattedValue):
        if not isinstance(node.value, ast.Name) or node.format_spec or node.conversion not in (-1, ord("r")):
            yield node.lineno, "L7", "an f-string"
    if isinstance(node, ast.Compare):
        for op, right in zip(node.ops, node.comparators):
            single = isinstance(right, ast.Constant) and (right.value is None or isinstance(right.value, bool))
            if isinstance(op, (ast.Is, ast.IsNot)) and not single:
                yield node.lineno, "L20", "is"
    if isinstance(node, (ast.Name, ast.Attribute)):
        yield from name_faults(node, owned)
    if isinstance(node, ast.Call):
        yield from call_faults(node, owned)


def name_faults(node, owned):
    name = node.id if isinstance(node, ast.Name) else node.attr
    stored = isinstance(node.ctx, ast.Store)
    if not re.fullmatch(r"[A-Za-z][A-Za-z0-9_]*", name) and name not in SPECIAL_METHODS:
        yield node.lineno, "L12", name
    if name in NEVER or (isinstance(node, ast.Name) and name in NEVER_NAMES):
        yield node.lineno, "L17", name
    if isinstance(node, ast.Name):
        if name in dir(builtins) and (stored or name not in OWN_NAMES):
            yield node.lineno, "L8", name
    elif stored and name in TAKEN and name not in VALUE_NAMES:
        yield node.lineno, "L26", name
    elif stored and name in owned:
        yield node.lineno, "L18", name


def call_faults(node, owned):
    if isinstance(node.func, ast.Attribute):
        name = node.func.attr
        if name not in OWN_METHODS and name not in owned and name not in SPECIAL_METHODS:
            yield node.lineno, "L25", name
    elif isinstance(node.func, ast.Name) and node.keywords:
        allowed = {"sorted": ("key", "reverse"), "min": ("key", "default"), "max": ("key", "default"),
                   "sum": ("start",), "enumerate": ("start",), "zip": ("strict",)}
        for keyword in node.keywords:
            if node.func.id in OWN_NAMES and keyword.arg not in allowed.get(node.func.id, ()):
                yield node.lineno, "L22", str(keyword.arg)


def walk_faults(tree):
    """L23 and L24: what is to be walked, or asked, on the spot and is not."""
    around = {id(child): node for node in ast.walk(tree) for child in ast.iter_child_nodes(node)}
    for node in ast.walk(tree):
        if not isinstance(node, ast.Call):
            continue
        outer = around.get(id(node))
        called = outer.func if isinstance(outer, ast.Call) else None
        by = getattr(called, "id", getattr(called, "attr", ""))
        own_walk = isinstance(node.func, ast.Name) and node.func.id in WALKED
        dict_walk = isinstance(node.func, ast.Attribute) and node.func.attr in ("items", "keys", "values")
        if (own_walk or dict_walk) and not isinstance(outer, (ast.For, ast.comprehension)) and by not in WALKERS + ("join",):
            yield node.lineno, "L23", "kept"
        if isinstance(node.func, ast.Name) and node.func.id in ("set", "frozenset"):
            if not isinstance(outer, (ast.Compare, ast.BinOp)) and by not in ("sorted", "len"):
                yield node.lineno, "L24", "a set kept"


def local_faults(tree):
    """L15: parameters and locals that are called like a class or an import of their file."""
    imports = [alias.asname or alias.name for node in tree.body if isinstance(node, ast.ImportFrom) for alias in node.names]
    taken = set(imports) | {node.name for node in tree.body if isinstance(node, ast.ClassDef)}
    for node in ast.walk(tree):
        name = node.arg if isinstance(node, ast.arg) else getattr(node, "id", None)
        stored = isinstance(node, ast.arg) or isinstance(getattr(node, "ctx", None), ast.Store)
        if stored and name in taken:
            yield node.lineno, "L15", name


def methods_of(tree):
    classes = [node for node in tree.body if isinstance(node, ast.ClassDef)]
    return {part.name for node in classes for part in node.body if isinstance(part, ast.FunctionDef)}


def faults(text, owned=frozenset()):
    """A file's faults: (line, rule, what). owned: all names of methods in the package."""
    tree = ast.parse(text)
    owned = set(owned) | methods_of(tree)
    found = list(text_faults(text)) + list(top_faults(tree)) + list(walk_faults(tree))
    found += local_faults(tree)
    for node in ast.walk(tree):
        if isinstance(node, ast.stmt):
            found += statement_faults(node, node in tree.body)
            if isinstance(node, (ast.FunctionDef, ast.ClassDef)) and re.match("_[^_]", node.name):
                found.append((node.lineno, "L12", node.name))
        elif isinstance(node, ast.expr):
            found += value_faults(node, owned)
        elif isinstance(node, ast.arg) and (node.arg in dir(builtins) or node.arg.startswith("_")):
            found.append((node.lineno, "L15", node.arg))
    return found


def drawn_from(text):
    """The package's files that this one imports from, with the names."""
    rows = [node for node in ast.parse(text).body if isinstance(node, ast.ImportFrom)]
    return [(row.module.split(".")[1], alias.name) for row in rows for alias in row.names]


def defined_in(text):
    tree = ast.parse(text)
    names = {node.name for node in tree.body if isinstance(node, (ast.FunctionDef, ast.ClassDef))}
    assigned = [node for node in tree.body if isinstance(node, ast.Assign)]
    return names | {target.id for node in assigned for target in node.targets if isinstance(target, ast.Name)}
