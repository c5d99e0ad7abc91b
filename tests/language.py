"""Looks a file of the package over by those rules of the language (L1 to L28) that are seen line by line."""

import ast
import builtins
import warnings

BUILTINS = set(
    "len range enumerate zip min max sum abs sorted reversed int str bool bytes list tuple dict set frozenset "
    "isinstance ord repr any all divmod pow getattr hasattr setattr iter next map type super Exception ValueError "
    "TypeError KeyError IndexError LookupError ZeroDivisionError ArithmeticError OverflowError RuntimeError "
    "NotImplementedError AttributeError StopIteration NotImplemented property staticmethod classmethod".split()
)
LIBRARY = {
    "heapq": {"heappush", "heappop", "heapify", "heapreplace", "heappushpop"},
    "math": {"gcd", "lcm", "isqrt", "comb", "perm", "factorial"},
    "itertools": {"product", "combinations", "permutations", "chain", "accumulate", "pairwise", "islice",
                  "zip_longest"},
    "collections": {"defaultdict", "deque"},
}
METHODS = set(
    "append clear copy count endswith extend find get index insert isalnum isalpha isdigit islower isspace isupper "
    "items join keys ljust lower lstrip partition pop remove replace reverse rfind rjust rpartition rsplit rstrip "
    "setdefault split splitlines startswith strip update upper values zfill bit_length title capitalize swapcase "
    "casefold center expandtabs removeprefix removesuffix rindex isascii isdecimal isnumeric istitle isidentifier "
    "isprintable translate format sort add discard popleft appendleft extendleft rotate".split()
)
ATTRIBUTES_OUT = set(
    "items keys values pop update append clear extend insert remove reverse setdefault sort args encode decode hex "
    "fromhex format".split()
)
BARRED = set("mro elements open input law version_info with_traceback add_note register".split())
CATCHABLE = {"KeyError", "ZeroDivisionError", "StopIteration", "ValueError", "LookupError", "IndexError"}
NODES_OUT = {
    ast.Import: "L2", ast.AsyncFunctionDef: "L6", ast.AsyncFor: "L6", ast.AsyncWith: "L6", ast.TryStar: "L6",
    ast.Div: "L7", ast.MatMult: "L7", ast.Await: "L7",
}


def faults_of(source, own=frozenset()):
    """The rising list of pairs (line, rule) that a file breaks; own are names that other files define."""
    tree = _parsed(source)
    known = METHODS | own_names(source) | own
    found = _of_text(source) + _of_module(tree)
    for node in ast.walk(tree):
        for rule in _of_node(node, known):
            found.append((getattr(node, "lineno", 0), rule))
    return sorted(set(found))


def own_names(source):
    """The set of the names of all functions, methods and classes that a file defines."""
    tree = _parsed(source)
    return {node.name for node in ast.walk(tree) if isinstance(node, (ast.FunctionDef, ast.ClassDef))}


def _parsed(source):
    with warnings.catch_warnings():
        warnings.simplefilter("error")
        compile(source, "file", "exec")
        return ast.parse(source)


def _of_text(source):
    lines = source.split("\n")
    found = [(at, "L10") for at, line in enumerate(lines, 1) if len(line) > 120 or "\t" in line]
    found += [(at, "L14") for at, line in enumerate(lines, 1) if [sign for sign in line if not " " <= sign <= "~"]]
    return found + [(len(lines), "L10")] * (len(lines) > 400)


def _of_module(tree):
    found = []
    names = []
    for at, node in enumerate(tree.body):
        if isinstance(node, (ast.FunctionDef, ast.ClassDef)):
            names.append(node.name)
        elif isinstance(node, ast.ImportFrom):
            names.extend(alias.asname or alias.name for alias in node.names)
            if [elder for elder in tree.body[:at] if not isinstance(elder, (ast.ImportFrom, ast.Expr))]:
                found.append((node.lineno, "L2"))
        elif isinstance(node, ast.Assign) and len(node.targets) == 1 and isinstance(node.targets[0], ast.Name):
            names.append(node.targets[0].id)
        elif not (at == 0 and isinstance(node, ast.Expr) and isinstance(node.value, ast.Constant)):
            found.append((node.lineno, "L3"))
    return found + [(0, "L15")] * (len(names) != len(set(names))) + _of_shadows(tree) + _of_classes(tree)


def _of_shadows(tree):
    """Parameters and variables that have the name of a class or an import of the file."""
    taken = {node.name for node in tree.body if isinstance(node, ast.ClassDef)}
    for node in tree.body:
        if isinstance(node, ast.ImportFrom):
            taken.update(alias.name for alias in node.names)
    found = [(node.lineno, "L15") for node in ast.walk(tree) if isinstance(node, ast.arg) and node.arg in taken]
    return found + [
        (node.lineno, "L15") for node in ast.walk(tree)
        if isinstance(node, ast.Name) and isinstance(node.ctx, ast.Store) and node.id in taken
    ]


def _of_classes(tree):
    """Names that are a method and an attribute of one class, and attributes called as a builtin's method is."""
    found = []
    for node in tree.body:
        if isinstance(node, ast.ClassDef):
            methods = {one.name for one in node.body if isinstance(one, ast.FunctionDef)}
            attributes = [one for one in ast.walk(node) if isinstance(one, ast.Attribute)]
            stored = [one for one in attributes if isinstance(one.ctx, ast.Store)]
            found += [(one.lineno, "L18") for one in stored if one.attr in methods]
            found += [(one.lineno, "L26") for one in stored if one.attr in ATTRIBUTES_OUT]
    return found


def _of_node(node, known):
    if type(node) in NODES_OUT:
        yield NODES_OUT[type(node)]
    if isinstance(node, ast.ImportFrom):
        yield from _of_import(node)
    if isinstance(node, (ast.FunctionDef, ast.Lambda)):
        yield from _of_function(node)
    if isinstance(node, ast.ClassDef) and (node.decorator_list or node.keywords):
        yield "L5"
    if isinstance(node, ast.Constant):
        yield from _of_constant(node.value)
    if isinstance(node, (ast.Name, ast.arg, ast.Attribute)):
        yield from _of_name(node)
    if isinstance(node, ast.GeneratorExp):
        # As a class of the package has __eq__ here, a list is taken by any, all, sorted and the like.
        yield "L7"
    if isinstance(node, ast.Starred) and not isinstance(node.value, (ast.Name, ast.Attribute)):
        yield "L7"
    if isinstance(node, ast.Call) and isinstance(node.func, ast.Attribute):
        if node.func.attr not in known and node.func.attr != "__init__":
            yield "L25"
    if isinstance(node, ast.Compare) and [sign for sign in node.ops if isinstance(sign, (ast.Is, ast.IsNot))]:
        yield from _of_identity(node)
    if isinstance(node, ast.ExceptHandler):
        yield from _of_handler(node)
    if isinstance(node, (ast.For, ast.comprehension)) and isinstance(node.iter, (ast.Set, ast.SetComp)):
        yield "L24"
    if isinstance(node, ast.Attribute) and isinstance(node.ctx, ast.Store) and not isinstance(node.value, ast.Name):
        yield "L18"
    if isinstance(node, ast.FunctionDef):
        yield from _of_sets(node)
    if isinstance(node, ast.Try):
        yield from _of_finally(node)


def _is_set(node):
    if isinstance(node, ast.Call):
        return isinstance(node.func, ast.Name) and node.func.id in ("set", "frozenset")
    return isinstance(node, (ast.Set, ast.SetComp))


def _of_sets(function):
    """Sets that are stored otherwise than once, by a statement of its own, or used otherwise than L24 lets."""
    stored = set()
    for node in ast.walk(function):
        if isinstance(node, (ast.Tuple, ast.List)) and [part for part in node.elts if _is_set(part)]:
            yield "L24"
        if isinstance(node, ast.Return) and node.value is not None and _is_set(node.value):
            yield "L24"
        if isinstance(node, ast.Assign) and _is_set(node.value):
            names = [target.id for target in node.targets if isinstance(target, ast.Name)]
            if len(names) != 1 or len(node.targets) != 1 or names[0] in stored:
                yield "L24"
            stored.update(names)
    for node in ast.walk(function):
        if isinstance(node, (ast.For, ast.comprehension)) and isinstance(node.iter, ast.Name) and node.iter.id in stored:
            yield "L24"
        if isinstance(node, ast.Return) and isinstance(node.value, ast.Name) and node.value.id in stored:
            yield "L24"


def _of_finally(node):
    """Statements of a finally that are none of those which L6 lets."""
    for one in [part for statement in node.finalbody for part in ast.walk(statement)]:
        if isinstance(one, (ast.Return, ast.Break, ast.Continue, ast.Raise, ast.For, ast.While, ast.Delete, ast.Subscript)):
            yield "L6"
        if isinstance(one, ast.Call):
            if not isinstance(one.func, ast.Attribute) or one.func.attr not in ("append", "clear"):
                yield "L6"
        if isinstance(one, ast.If) and not isinstance(one.test, (ast.Compare, ast.BoolOp, ast.UnaryOp)):
            yield "L6"


def _of_import(node):
    if [alias for alias in node.names if alias.name == "*"] or node.level:
        yield "L2"
    elif node.module in LIBRARY:
        if [alias for alias in node.names if alias.name not in LIBRARY[node.module] or alias.asname]:
            yield "L2"
    elif node.module != "__future__" and not node.module.startswith("sayloom."):
        yield "L2"


def _of_function(node):
    defaults = [default for default in node.args.defaults + node.args.kw_defaults if default is not None]
    if [default for default in defaults if isinstance(default, (ast.List, ast.Dict, ast.Set, ast.Call))]:
        yield "L4"
    if isinstance(node, ast.FunctionDef):
        if node.end_lineno - node.lineno + 1 > 40:
            yield "L10"
        if [one for one in node.decorator_list if not isinstance(one, (ast.Name, ast.Attribute))]:
            yield "L4"
        if node.name in dir(builtins):
            yield "L15"


def _of_constant(value):
    if isinstance(value, (float, complex)):
        yield "L7"
    if isinstance(value, str) and "%" in value:
        yield "L27"


def _of_name(node):
    name = node.attr if isinstance(node, ast.Attribute) else getattr(node, "id", None) or getattr(node, "arg", "")
    if name in BARRED:
        yield "L17"
    if name.startswith("__") and name != "__init__" or not name.isascii():
        yield "L12"
    if isinstance(node, ast.Attribute):
        return
    if isinstance(node, ast.Name) and isinstance(node.ctx, ast.Load):
        if name in dir(builtins) and name not in BUILTINS:
            yield "L8"
    elif name in dir(builtins) and name != "_":
        yield "L15"


def _of_identity(node):
    for side in node.comparators:
        if not (isinstance(side, ast.Name) or isinstance(side, ast.Constant) and side.value in (None, True, False)):
            yield "L20"


def _of_handler(node):
    if node.type is None:
        yield "L6"
        return
    kinds = node.type.elts if isinstance(node.type, ast.Tuple) else [node.type]
    if [kind for kind in kinds if getattr(kind, "id", "") in dir(builtins) and kind.id not in CATCHABLE]:
        yield "L19"
