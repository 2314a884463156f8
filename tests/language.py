"""Finds where a file of the package leaves the part of Python that the program keeps to.

It sees what a look at single places of a file shows (of the rules L2 to L8, L10, L12, L14, L15, L17 to L28); what
hangs on how values are used from row to row is left to the reader.
"""

import ast
import builtins
import re

OWN_NAMES = set("""
    len range enumerate zip min max sum abs sorted reversed int str bool list tuple dict set frozenset
    isinstance ord repr any all divmod Exception ValueError TypeError KeyError IndexError LookupError
    ZeroDivisionError ArithmeticError OverflowError RuntimeError NotImplementedError AttributeError StopIteration
""".split())
METHODS = set("""
    append clear copy count endswith extend find get index insert isalnum isalpha isdigit islower isspace isupper
    items join keys ljust lower lstrip partition pop remove replace reverse rfind rjust rpartition rsplit rstrip
    setdefault split splitlines startswith strip update upper values zfill bit_length
""".split())
DUNDERS = {"__init__", "__eq__", "__repr__", "__str__", "__len__"}
UNUSED = set("register mro elements open input version_info with_traceback add_note format format_map".split())
UNSAID = set("""
    type typing typing_extensions enum Enum IntEnum StrEnum Flag IntFlag Generic Protocol ABC ABCMeta namedtuple
    NamedTuple TypedDict TYPE_CHECKING abstractmethod
""".split())
NOT_NAMES = set("""
    attrgetter breakpoint builtins compile copyright credits delattr dir eval exec exit gc getattr globals hasattr help
    id importlib license locals methodcaller os quit setattr super type vars sys __name__
""".split())
KEYWORDS = {
    "sorted": {"key", "reverse"}, "min": {"key", "default"}, "max": {"key", "default"}, "sum": {"start"},
    "enumerate": {"start"}, "zip": {"strict"},
}
CHANGING = set("append clear extend insert pop remove reverse setdefault update".split())
FREE_VALUES = set("count index title find get join lower upper split strip copy add".split())
TAKEN_VALUES = {name for kind in (str, int, list, tuple, dict, set, bytes) for name in dir(kind)} | {"args"}
NODES = (
    ast.Module, ast.ImportFrom, ast.alias, ast.FunctionDef, ast.arguments, ast.arg, ast.ClassDef, ast.Lambda,
    ast.Assign, ast.AugAssign, ast.If, ast.While, ast.For, ast.Return, ast.Break, ast.Continue, ast.Pass,
    ast.Raise, ast.Try, ast.ExceptHandler, ast.Expr, ast.Constant, ast.List, ast.Tuple, ast.Dict, ast.Set,
    ast.BinOp, ast.UnaryOp, ast.BoolOp, ast.Compare, ast.IfExp, ast.Call, ast.keyword, ast.Attribute,
    ast.Subscript, ast.Slice, ast.ListComp, ast.comprehension, ast.JoinedStr, ast.FormattedValue, ast.Name,
    ast.operator, ast.unaryop, ast.boolop, ast.cmpop, ast.expr_context,
)


def faults(source, package="spanways"):
    """A list of (row, what is wrong) for the text of a file."""
    found = text_faults(source)
    tree = ast.parse(source)
    found += top_faults(tree, package)
    found += shadow_faults(tree)
    found += place_faults(tree)
    found += method_faults(tree)
    found += loop_faults(tree)
    for node in ast.walk(tree):
        row = getattr(node, "lineno", 0)
        found += [(row, what) for what in node_faults(node, tree)]
    return found


def text_faults(source):
    found = []
    rows = source.split("\n")
    if len(rows) > 401:
        found.append((len(rows), "L10 a file of more than 400 lines"))
    for row, line in enumerate(rows, start=1):
        if len(line) > 120:
            found.append((row, "L10 a line of more than 120 characters"))
        if not all(" " <= sign <= "~" for sign in line):
            found.append((row, "L14 a sign that is not from the blank to the tilde"))
        for word in re.findall(r"\w+", line):
            if word in UNSAID or re.search("dataclass|overload|contextmanager", word):
                found.append((row, f"L17 the word {word}"))
    return found


def is_docstring(statement):
    return isinstance(statement, ast.Expr) and isinstance(statement.value, ast.Constant)


def top_faults(tree, package):
    found, bound = [], []
    for place, statement in enumerate(tree.body):
        row = statement.lineno
        if isinstance(statement, ast.ImportFrom):
            if statement.level or not statement.module.startswith(package + "."):
                found.append((row, "L2 an import from elsewhere"))
            bound += [alias.asname or alias.name for alias in statement.names]
        elif isinstance(statement, (ast.FunctionDef, ast.ClassDef)):
            bound.append(statement.name)
        elif isinstance(statement, ast.Assign) and plain(statement.value):
            bound += [target.id for target in statement.targets]
        elif not (place == 0 and is_docstring(statement)):
            found.append((row, "L3 not for the top of a file"))
    found += [(0, f"L15 {name} is bound twice") for name in sorted(set(bound)) if bound.count(name) > 1]
    return found


def shadow_faults(tree):
    """Locals and parameters that are called like a class or an import of the file."""
    taken = {node.name for node in ast.walk(tree) if isinstance(node, ast.ClassDef)}
    taken |= {node.asname or node.name for node in ast.walk(tree) if isinstance(node, ast.alias)}
    found = []
    for node in ast.walk(tree):
        bound = isinstance(node, ast.arg) or isinstance(node, ast.Name) and isinstance(node.ctx, ast.Store)
        if bound and names_of(node)[0] in taken:
            found.append((node.lineno, f"L15 {names_of(node)[0]} is a class or an import of the file"))
    return found


def method_faults(tree):
    """Methods that neither Python's own values nor the file's classes may have, and values called like a method."""
    own = {part.name for node in ast.walk(tree) if isinstance(node, ast.ClassDef) for part in node.body
           if isinstance(part, ast.FunctionDef)}
    found = []
    for node in ast.walk(tree):
        if isinstance(node, ast.Call) and isinstance(node.func, ast.Attribute):
            if node.func.attr not in METHODS | own:
                found.append((node.lineno, f"L25 the method {node.func.attr}"))
            if node.func.attr in METHODS and node.keywords:
                found.append((node.lineno, "L22 a keyword at a method of Python's own"))
        if isinstance(node, ast.Attribute) and isinstance(node.ctx, ast.Store):
            if node.attr in TAKEN_VALUES - FREE_VALUES or node.attr in own:
                found.append((node.lineno, f"L18/L26 a value called {node.attr}"))
    return found


def loop_faults(tree):
    """Loops that change the very list or dict that they walk."""
    found = []
    for loop in ast.walk(tree):
        if isinstance(loop, ast.For):
            for node in ast.walk(loop):
                if changed_by(node) is not None and changed_by(node) in walked_names(loop.iter):
                    found.append((node.lineno, "L23 what a loop walks is changed in it"))
    return found


def walked_names(value):
    if called(value, {"enumerate", "zip", "reversed"}):
        return [name for part in value.args for name in walked_names(part)]
    if isinstance(value, ast.Call) and isinstance(value.func, ast.Attribute):
        return walked_names(value.func.value)
    return [ast.unparse(value)]


def changed_by(node):
    if isinstance(node, ast.Call) and isinstance(node.func, ast.Attribute) and node.func.attr in CHANGING:
        return ast.unparse(node.func.value)
    if isinstance(node, ast.Subscript) and isinstance(node.ctx, ast.Store):
        return ast.unparse(node.value)
    return None


def called(node, names):
    return isinstance(node, ast.Call) and isinstance(node.func, ast.Name) and node.func.id in names


def place_faults(tree):
    """Walks that are kept, and sets that stand elsewhere than on the spot."""
    above = {child: node for node in ast.walk(tree) for child in ast.iter_child_nodes(node)}
    found = []
    for node in ast.walk(tree):
        if walk_made(node) and not walked(node, above[node]):
            found.append((node.lineno, "L23 not walked on the spot"))
        if called(node, {"set", "frozenset"}) and not set_on_the_spot(node, above):
            found.append((node.lineno, "L24 a set that is kept or walked"))
    return found


def walk_made(node):
    if called(node, {"zip", "enumerate", "reversed", "range"}):
        return True
    return isinstance(node, ast.Call) and isinstance(node.func, ast.Attribute) and (
        node.func.attr in {"items", "keys", "values"})


def walked(node, parent):
    if isinstance(parent, (ast.For, ast.comprehension)):
        return parent.iter is node
    if called(parent, {"zip"}):
        return node in parent.args
    if called(parent, {"list", "tuple", "dict", "sorted", "sum", "any", "all", "enumerate"}):
        return parent.args[:1] == [node]
    return called(parent, {"min", "max"}) and parent.args == [node]


def set_on_the_spot(node, above):
    parent = above[node]
    while isinstance(parent, ast.BinOp) and isinstance(parent.op, (ast.Sub, ast.BitAnd, ast.BitOr, ast.BitXor)):
        parent = above[parent]
    if isinstance(parent, ast.Compare):
        return all(isinstance(op, (ast.In, ast.NotIn, ast.Eq, ast.NotEq)) for op in parent.ops)
    return called(parent, {"sorted", "len"}) and not parent.keywords


def plain(value, within=False):
    if isinstance(value, (ast.List, ast.Dict)) and within:
        return False
    if isinstance(value, (ast.List, ast.Tuple)):
        return all(plain(item, True) for item in value.elts)
    if isinstance(value, ast.Dict):
        return all(plain(item, True) for item in value.keys + value.values)
    if isinstance(value, ast.UnaryOp):
        return isinstance(value.op, ast.USub) and plain(value.operand)
    return isinstance(value, (ast.Constant, ast.Name))


def node_faults(node, tree):
    found = []
    if not isinstance(node, NODES):
        found.append(f"L6/L7 {type(node).__name__}")
    for name in names_of(node):
        found += name_faults(name)
    for check in (def_faults, statement_faults, value_faults, error_faults, call_faults):
        found += check(node)
    if isinstance(node, ast.Name) and node.id in NOT_NAMES:
        found.append(f"L17 the name {node.id}")
    if isinstance(node, ast.Name) and isinstance(node.ctx, ast.Load):
        if node.id not in OWN_NAMES and node.id not in bound_names(tree):
            found.append(f"L8 {node.id} is not bound here")
    return found


def names_of(node):
    if isinstance(node, (ast.FunctionDef, ast.ClassDef)):
        return [node.name]
    if isinstance(node, ast.arg):
        return [node.arg]
    if isinstance(node, ast.Name):
        return [node.id]
    if isinstance(node, ast.Attribute):
        return [node.attr]
    return []


def name_faults(name):
    found = []
    if name not in DUNDERS and not re.fullmatch("[A-Za-z][A-Za-z0-9_]*", name):
        found.append(f"L12 the name {name}")
    if name in UNUSED:
        found.append(f"L17 the name {name}")
    return found


def bound_names(tree):
    found = set()
    for node in ast.walk(tree):
        if isinstance(node, (ast.FunctionDef, ast.ClassDef)):
            found.add(node.name)
        elif isinstance(node, ast.alias):
            found.add(node.asname or node.name)
        elif isinstance(node, ast.arg):
            found.add(node.arg)
        elif isinstance(node, ast.Name) and isinstance(node.ctx, ast.Store):
            found.add(node.id)
        elif isinstance(node, ast.ExceptHandler) and node.name:
            found.add(node.name)
    return found


def def_faults(node):
    found = []
    if isinstance(node, ast.FunctionDef):
        if node.decorator_list or node.returns:
            found.append("L4/L21 a decorator or an annotation")
        if node.end_lineno - node.lineno >= 40:
            found.append("L10 a function of more than 40 lines")
    if isinstance(node, ast.arguments) and (node.vararg or node.kwarg or node.kwonlyargs or node.posonlyargs):
        found.append("L4 parameters that are not plain")
    if isinstance(node, ast.arg) and (node.annotation or hasattr(builtins, node.arg)):
        found.append("L15/L21 a parameter with an annotation, or called like a name of Python's own")
    if isinstance(node, ast.ClassDef):
        if node.decorator_list or node.keywords or len(node.bases) > 1:
            found.append("L5 a class with a decorator, a keyword or several bases")
        for statement in node.body:
            if not isinstance(statement, (ast.FunctionDef, ast.Pass)):
                found.append("L5 a class body holds methods alone")
            elif isinstance(statement, ast.FunctionDef) and statement.name.startswith("__"):
                found += [] if statement.name in DUNDERS else [f"L5 the method {statement.name}"]
    return found


def statement_faults(node):
    found = []
    if isinstance(node, ast.Assign) and (len(node.targets) > 1 or isinstance(node.targets[0], (ast.Tuple, ast.List))):
        found.append("L6 one target in an assignment")
    if isinstance(node, ast.Expr) and not isinstance(node.value, (ast.Call, ast.Constant)):
        found.append("L6 a value by itself that is no call")
    if isinstance(node, (ast.While, ast.For)) and node.orelse:
        found.append("L6 else behind a loop")
    if isinstance(node, ast.Try) and (node.finalbody or any(handler.type is None for handler in node.handlers)):
        found.append("L6 finally, or except without a name")
    if isinstance(node, ast.alias) and node.name == "*":
        found.append("L2 import *")
    if isinstance(node, ast.Name) and isinstance(node.ctx, ast.Store) and hasattr(builtins, node.id):
        found.append(f"L15 {node.id} is a name of Python's own")
    return found


def value_faults(node):
    found = []
    if isinstance(node, ast.Constant) and isinstance(node.value, (float, complex, bytes)):
        found.append("L7 a float or bytes")
    if isinstance(node, ast.Constant) and isinstance(node.value, str) and "%" in node.value:
        found.append("L27 a per cent sign in a text")
    if isinstance(node, (ast.Div, ast.MatMult)):
        found.append("L7 / or @")
    if isinstance(node, ast.ListComp) and (len(node.generators) > 1 or len(node.generators[0].ifs) > 1):
        found.append("L7 a comprehension with more than one for or if")
    if isinstance(node, ast.FormattedValue) and (not isinstance(node.value, ast.Name) or node.format_spec):
        found.append("L7 an f-string with more than a plain name")
    if isinstance(node, ast.Compare) and any(isinstance(op, (ast.Is, ast.IsNot)) for op in node.ops):
        if not all(isinstance(side, ast.Constant) for side in node.comparators):
            found.append("L20 is beside something else than None, True, False")
    if isinstance(node, ast.BinOp) and isinstance(node.op, ast.Pow) and not isinstance(node.right, ast.Constant):
        found.append("L27 an exponent that is not written out")
    if isinstance(node, ast.Attribute) and isinstance(node.value, (ast.Constant, ast.List, ast.Dict, ast.JoinedStr)):
        if node.attr not in METHODS:
            found.append(f"L25 the method {node.attr}")
    return found


def error_faults(node):
    found = []
    if isinstance(node, ast.Raise) and not (isinstance(node.exc, ast.Call) and isinstance(node.exc.func, ast.Name)):
        found.append("L19 an error that is not made on the spot")
    if isinstance(node, ast.ExceptHandler) and isinstance(node.type, ast.Name):
        if node.type.id in {"Exception", "TypeError"}:
            found.append(f"L19 except {node.type.id}")
    if isinstance(node, ast.FunctionDef) and node.name == "__init__":
        if any(isinstance(part, ast.Return) for part in ast.walk(node)):
            found.append("L28 a return in __init__")
    return found


def call_faults(node):
    if not isinstance(node, ast.Call) or not isinstance(node.func, ast.Name) or node.func.id not in OWN_NAMES:
        return []
    allowed = KEYWORDS.get(node.func.id, set())
    return ["L22 a keyword at a name of Python's own" for keyword in node.keywords if keyword.arg not in allowed]
