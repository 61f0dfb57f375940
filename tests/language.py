"""Finds code outside the small part of Python that the package keeps to (LANGUAGE.md).

Not all of its rules can be seen by a program; what is checked here is what can be seen plainly.
faults(name, source, package) tells a list of texts, each with a rule's name and a line.
"""

import ast
import builtins
import re

BUILTINS = set(
    "len range enumerate zip min max sum abs sorted reversed int str bool list tuple dict set frozenset "
    "isinstance ord repr any all divmod Exception ValueError TypeError KeyError IndexError LookupError "
    "ZeroDivisionError ArithmeticError OverflowError RuntimeError NotImplementedError AttributeError "
    "StopIteration True False None".split()
)
METHODS = set(
    "append clear copy count endswith extend find get index insert isalnum isalpha isdigit islower isspace "
    "isupper items join keys ljust lower lstrip partition pop remove replace reverse rfind rjust rpartition "
    "rsplit rstrip setdefault split splitlines startswith strip update upper values zfill bit_length".split()
)
OWN_DUNDERS = {"__init__", "__eq__", "__repr__", "__str__", "__len__"}
PYTHONS_OWN = set(dir(str) + dir(int) + dir(list) + dir(dict) + dir(set) + dir(bytes) + dir(tuple))
UNUSED = set("register mro elements open input version_info with_traceback add_note".split())
WORDS = re.compile(
    r"\b(type|typing|typing_extensions|enum|Enum|IntEnum|StrEnum|Flag|IntFlag|Generic|Protocol|ABC|ABCMeta"
    r"|namedtuple|NamedTuple|TypedDict|TYPE_CHECKING|abstractmethod)\b|dataclass|overload|contextmanager"
)
FILE_NAME = re.compile(r"(__init__|__main__|[a-z][a-z0-9_]*)\.py")
NOT_FILE_NAMES = set("test tests testing site conftest sitecustomize usercustomize".split())
IS_BESIDE = {"None", "True", "False"}
TAKEN_FREELY = {"KeyError", "ZeroDivisionError", "StopIteration"}
TAKEN_ALONE = {"ValueError", "LookupError", "IndexError"}

NODES = (
    ast.Module, ast.FunctionDef, ast.ClassDef, ast.Return, ast.Assign, ast.AugAssign, ast.For, ast.While, ast.If,
    ast.Raise, ast.Try, ast.ExceptHandler, ast.ImportFrom, ast.alias, ast.Expr, ast.Pass, ast.Break, ast.Continue,
    ast.BoolOp, ast.BinOp, ast.UnaryOp, ast.Lambda, ast.IfExp, ast.Dict, ast.Set, ast.ListComp, ast.comprehension,
    ast.Compare, ast.Call, ast.keyword, ast.FormattedValue, ast.JoinedStr, ast.Constant, ast.Attribute,
    ast.Subscript, ast.Slice, ast.Name, ast.List, ast.Tuple, ast.arguments, ast.arg,
    ast.expr_context, ast.boolop, ast.operator, ast.unaryop, ast.cmpop,
)


def faults(name, source, package="forestread"):
    found = file_faults(name, source)
    tree = ast.parse(source)
    found += top_faults(tree)
    bound = bound_names(tree)
    for node in ast.walk(tree):
        for fault in node_faults(node, bound, package, name):
            found.append(f"{name}:{getattr(node, 'lineno', 0)}: {fault}")
    return found


def file_faults(name, source):
    found = []
    stem = name[:-3]
    if not FILE_NAME.fullmatch(name):
        found.append(f"{name}: L1 file name")
    if stem in NOT_FILE_NAMES or stem.startswith("test_") or stem in dir(builtins) or WORDS.fullmatch(stem):
        found.append(f"{name}: L14 file name")
    lines = source.split("\n")
    if len(lines) > 400:
        found.append(f"{name}: L10 more than 400 lines")
    for number, line in enumerate(lines, start=1):
        if len(line) > 120:
            found.append(f"{name}:{number}: L10 more than 120 characters")
        if any(not " " <= sign <= "~" for sign in line):
            found.append(f"{name}:{number}: L14 sign")
        if WORDS.search(line):
            found.append(f"{name}:{number}: L17 word")
    return found


def is_docstring(node):
    return isinstance(node, ast.Expr) and isinstance(node.value, ast.Constant) and isinstance(node.value.value, str)


def is_plain(node, defined):
    if isinstance(node, ast.Constant):
        return True
    if isinstance(node, (ast.List, ast.Tuple)):
        return all(is_plain(part, defined) for part in node.elts)
    if isinstance(node, ast.Dict):
        return all(is_plain(part, defined) for part in node.keys + node.values)
    if isinstance(node, ast.UnaryOp) and isinstance(node.op, ast.USub):
        return is_plain(node.operand, defined)
    return isinstance(node, ast.Name) and node.id in defined


def top_faults(tree):
    found = []
    defined = {}
    for place, node in enumerate(tree.body):
        if isinstance(node, (ast.FunctionDef, ast.ClassDef)):
            names = [node.name]
        elif isinstance(node, ast.ImportFrom):
            names = [alias.asname or alias.name for alias in node.names]
        elif isinstance(node, ast.Assign) and is_plain(node.value, defined):
            names = [target.id for target in node.targets if isinstance(target, ast.Name)]
        else:
            names = []
            if not (place == 0 and is_docstring(node)):
                found.append(f"{node.lineno}: L3 at the file's top")
        for name in names:
            if name in defined:
                found.append(f"{node.lineno}: L15 {name} is bound twice")
            defined[name] = True
    return found


def bound_names(tree):
    bound = set()
    for node in ast.walk(tree):
        if isinstance(node, (ast.FunctionDef, ast.ClassDef)):
            bound.add(node.name)
        if isinstance(node, ast.arg):
            bound.add(node.arg)
        if isinstance(node, ast.Name) and isinstance(node.ctx, ast.Store):
            bound.add(node.id)
        if isinstance(node, ast.alias):
            bound.add(node.asname or node.name)
        if isinstance(node, ast.ExceptHandler) and node.name:
            bound.add(node.name)
    return bound


def node_faults(node, bound, package, file):
    found = []
    if not isinstance(node, NODES) or isinstance(node, (ast.Div, ast.MatMult)):
        found.append(f"L6/L7 {type(node).__name__}")
    checks = {
        ast.FunctionDef: def_faults, ast.ClassDef: class_faults, ast.Constant: constant_faults,
        ast.Compare: compare_faults, ast.Attribute: attribute_faults, ast.Try: try_faults,
        ast.ListComp: comprehension_faults, ast.For: loop_faults, ast.While: loop_faults,
        ast.Assign: assign_faults, ast.Expr: expression_faults, ast.BinOp: power_faults,
    }
    if type(node) in checks:
        found += checks[type(node)](node)
    if isinstance(node, ast.ImportFrom):
        found += import_faults(node, package, file)
    if isinstance(node, ast.Name):
        found += name_faults(node, bound)
    if isinstance(node, (ast.FunctionDef, ast.ClassDef, ast.arg)):
        found += own_name_faults(node.arg if isinstance(node, ast.arg) else node.name)
    if isinstance(node, ast.Name) and isinstance(node.ctx, ast.Store):
        found += own_name_faults(node.id)
    return found


def def_faults(node):
    found = []
    if node.end_lineno - node.lineno + 1 > 40:
        found.append("L10 more than 40 lines")
    if node.decorator_list or node.args.vararg or node.args.kwarg or node.args.kwonlyargs or node.args.posonlyargs:
        found.append("L4 parameters or decorator")
    return found


def class_faults(node):
    found = []
    if node.decorator_list or node.keywords or len(node.bases) > 1 or node.col_offset:
        found.append("L5/L15 class")
    if not all(isinstance(part, (ast.FunctionDef, ast.Pass)) for part in node.body):
        found.append("L5 value in a class")
    return found


def constant_faults(node):
    if isinstance(node.value, (float, complex, bytes)) or node.value is ...:
        return ["L7 value"]
    if isinstance(node.value, str) and chr(37) in node.value:
        return ["L27 percent sign within a text"]
    return []


def compare_faults(node):
    asked = [node.left] + node.comparators
    for place, operation in enumerate(node.ops):
        if isinstance(operation, (ast.Is, ast.IsNot)):
            pair = asked[place:place + 2]
            if not any(isinstance(side, ast.Constant) and repr(side.value) in IS_BESIDE for side in pair):
                return ["L20 is"]
    return []


def attribute_faults(node):
    if node.attr in UNUSED or node.attr == "format" or node.attr == "format_map":
        return [f"L17 {node.attr}"]
    if node.attr.startswith("_") and node.attr not in OWN_DUNDERS:
        return [f"L12 {node.attr}"]
    if node.attr in PYTHONS_OWN and node.attr not in METHODS | OWN_DUNDERS | {"add", "discard", "title"}:
        return [f"L25 {node.attr}"]
    return []


def try_faults(node):
    found = []
    if node.finalbody or not node.handlers:
        found.append("L6 finally")
    for handler in node.handlers:
        kinds = handler.type.elts if isinstance(handler.type, ast.Tuple) else [handler.type]
        for kind in kinds:
            own = isinstance(kind, ast.Name) and not hasattr(builtins, kind.id)
            if not own and (kind is None or kind.id not in TAKEN_FREELY | TAKEN_ALONE):
                found.append("L19 taken error")
    return found


def comprehension_faults(node):
    if len(node.generators) > 1 or len(node.generators[0].ifs) > 1:
        return ["L7 comprehension"]
    return []


def loop_faults(node):
    return ["L6 else behind a loop"] if node.orelse else []


def assign_faults(node):
    return ["L6 more than one target"] if len(node.targets) > 1 else []


def expression_faults(node):
    if isinstance(node.value, ast.Call) or (is_docstring(node) and node.lineno == 1):
        return []
    return ["L6 a value by itself"]


def power_faults(node):
    if isinstance(node.op, ast.Pow):
        exponent = node.right.value if isinstance(node.right, ast.Constant) else None
        if exponent not in range(65):
            return ["L27 exponent"]
    return []


def import_faults(node, package, file):
    found = []
    whole = node.module or ""
    if whole == "__future__":
        return found
    if node.level or not whole.startswith(package + ".") or whole.endswith("__main__") or node.col_offset:
        found.append("L2 import")
    if any(alias.name == "*" for alias in node.names):
        found.append("L2 import of all")
    if file == "__init__.py":
        found.append("L16 import in __init__.py")
    return found


def name_faults(node, bound):
    if node.id in bound or node.id in BUILTINS:
        return []
    return [f"L8 {node.id}"]


def own_name_faults(name):
    if name in OWN_DUNDERS:
        return []
    if name.startswith("_") or hasattr(builtins, name) or name in UNUSED:
        return [f"L12/L15/L17 {name}"]
    return []
