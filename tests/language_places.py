"""Finds what tests/language.py does not: code that is outside LANGUAGE.md by where it stands, or by another file.

place_faults(name, source) tells the faults of one file, package_faults(sources) those of all files together,
sources being a dict from file names to their texts.
"""

import ast

from language import BUILTINS, METHODS

WALKED = {"zip", "enumerate", "reversed", "range"}
WALKED_METHODS = {"items", "keys", "values"}
WALKERS = {"list", "tuple", "dict", "sorted", "sum", "any", "all", "enumerate", "zip"}
KEYWORDS = {
    "sorted": {"key", "reverse"}, "min": {"key", "default"}, "max": {"key", "default"},
    "sum": {"start"}, "enumerate": {"start"}, "zip": {"strict"},
}
CHANGING = {"append", "clear", "extend", "insert", "pop", "remove", "reverse", "setdefault", "update"}


def place_faults(name, source):
    tree = ast.parse(source)
    above = {}
    for node in ast.walk(tree):
        for inner in ast.iter_child_nodes(node):
            above[inner] = node
    found = local_faults(tree)
    for node in ast.walk(tree):
        if isinstance(node, ast.Call):
            found += keyword_faults(node) + walked_faults(node, above) + set_faults(node, above)
        if isinstance(node, ast.Set):
            found += set_faults(node, above)
        if isinstance(node, ast.FormattedValue):
            found += braces_faults(node)
        if isinstance(node, ast.For):
            found += changed_faults(node)
        if isinstance(node, ast.Assign) and not isinstance(node.targets[0], (ast.Name, ast.Attribute, ast.Subscript)):
            found.append(f"{node.lineno}: L6 more than one target")
        if isinstance(node, ast.Name) and node.id in BUILTINS:
            found += builtin_faults(node, above)
    return [f"{name}:{fault}" for fault in found]


def local_faults(tree):
    taken = {}
    for node in tree.body:
        if isinstance(node, ast.ImportFrom):
            taken.update((alias.asname or alias.name, True) for alias in node.names)
        if isinstance(node, ast.ClassDef):
            taken[node.name] = True
    found = []
    for node in ast.walk(tree):
        name = node.arg if isinstance(node, ast.arg) else None
        if isinstance(node, ast.Name) and isinstance(node.ctx, ast.Store):
            name = node.id
        if name in taken:
            found.append(f"{node.lineno}: L15 {name} is an import or a class of the file")
    return found


def keyword_faults(node):
    words = {keyword.arg for keyword in node.keywords}
    if isinstance(node.func, ast.Name) and node.func.id in BUILTINS:
        if words - KEYWORDS.get(node.func.id, set()):
            return [f"{node.lineno}: L22 keyword"]
    if isinstance(node.func, ast.Attribute) and node.func.attr in METHODS and words:
        return [f"{node.lineno}: L22 keyword"]
    return []


def is_call_of(node, names):
    return isinstance(node, ast.Call) and isinstance(node.func, ast.Name) and node.func.id in names


def walked_faults(node, above):
    method = isinstance(node.func, ast.Attribute) and node.func.attr in WALKED_METHODS
    if not method and not is_call_of(node, WALKED):
        return []
    outer = above[node]
    if isinstance(outer, (ast.For, ast.comprehension)) and outer.iter is node:
        return []
    if is_call_of(outer, WALKERS) and outer.args[0] is node:
        return []
    if is_call_of(outer, {"min", "max"}) and outer.args == [node]:
        return []
    if isinstance(outer, ast.Call) and isinstance(outer.func, ast.Attribute) and outer.func.attr == "join":
        if isinstance(outer.func.value, ast.Constant):
            return []
    return [f"{node.lineno}: L23 kept"]


def set_faults(node, above):
    if isinstance(node, ast.Call) and not is_call_of(node, {"set", "frozenset"}):
        return []
    outer = above[node]
    while isinstance(outer, ast.BinOp):
        outer = above[outer]
    if isinstance(outer, ast.Compare) or (is_call_of(outer, {"sorted", "len"}) and not outer.keywords):
        return []
    return [f"{node.lineno}: L24 set"]


def braces_faults(node):
    if isinstance(node.value, ast.Name) and node.format_spec is None and node.conversion in (-1, ord("r")):
        return []
    return [f"{node.lineno}: L7 braces"]


def changed_faults(node):
    """What a loop walks, by its written form, is not changed in its body."""
    walked = node.iter
    if is_call_of(walked, {"enumerate", "zip", "reversed"}):
        walked = walked.args[0]
    form = ast.dump(walked)
    for inner in [deeper for statement in node.body for deeper in ast.walk(statement)]:
        changed = None
        if isinstance(inner, ast.Call) and isinstance(inner.func, ast.Attribute) and inner.func.attr in CHANGING:
            changed = inner.func.value
        if isinstance(inner, ast.Subscript) and isinstance(inner.ctx, ast.Store):
            changed = inner.value
        if changed is not None and ast.dump(changed) == form:
            return [f"{node.lineno}: L23 changed while it is walked"]
    return []


def builtin_faults(node, above):
    """Python's own functions are called, not kept or handed on."""
    outer = above[node]
    if node.id in ("True", "False", "None") or (isinstance(outer, ast.Call) and outer.func is node):
        return []
    if isinstance(outer, (ast.keyword, ast.ClassDef, ast.ExceptHandler)) or node.id[0].isupper():
        return []
    if is_call_of(outer, {"isinstance"}) or (isinstance(outer, ast.Tuple) and is_call_of(above[outer], {"isinstance"})):
        return []
    return [f"{node.lineno}: L22 {node.id} is kept"]


def package_faults(sources):
    trees = {name[:-3]: ast.parse(source) for name, source in sources.items()}
    return clash_faults(trees) + source_faults(trees) + ring_faults(trees)


def clash_faults(trees):
    methods = {}
    kept = {}
    for module, tree in trees.items():
        for node in ast.walk(tree):
            if isinstance(node, ast.ClassDef):
                names = [part.name for part in node.body if isinstance(part, ast.FunctionDef)]
                methods.update((name, module) for name in names)
            if isinstance(node, ast.Attribute) and isinstance(node.ctx, ast.Store):
                kept[node.attr] = module
    return [f"{kept[name]}: L18 {name} is a method and a value" for name in kept if name in methods]


def imports_of(tree):
    return [node for node in tree.body if isinstance(node, ast.ImportFrom) and node.module != "__future__"]


def source_faults(trees):
    found = []
    for module, tree in trees.items():
        for node in imports_of(tree):
            source = trees.get(node.module.partition(".")[2])
            defined = set()
            for part in source.body if source else []:
                if isinstance(part, (ast.FunctionDef, ast.ClassDef)):
                    defined.add(part.name)
                if isinstance(part, ast.Assign):
                    defined.add(part.targets[0].id)
            for alias in node.names:
                if alias.name not in defined:
                    found.append(f"{module}: L16 {alias.name} is not defined in {node.module}")
    return found


def ring_faults(trees):
    drawn = {module: {node.module.partition(".")[2] for node in imports_of(tree)} for module, tree in trees.items()}
    for module in trees:
        seen = set()
        waiting = set(drawn[module])
        while waiting:
            other = waiting.pop()
            if other not in seen:
                seen.add(other)
                waiting |= drawn.get(other, set())
        if module in seen:
            return [f"{module}: L16 draws from itself"]
    return []
