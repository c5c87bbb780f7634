"""Rules about names and calls within functions (L4, L8, L10, L12, L15, L17, L18, L22, L25)."""

import ast
import builtins
import re

from rulecheck.source import COMPREHENSIONS

CALLED = (
    "len range enumerate zip min max sum abs sorted reversed int str bool list tuple dict set isinstance ord repr any"
    " all divmod pow iter next map"
).split()
ERRORS = (
    "Exception ValueError TypeError KeyError IndexError LookupError ZeroDivisionError ArithmeticError OverflowError"
    " RuntimeError NotImplementedError AttributeError StopIteration"
).split()
KEYWORDS = {
    "sorted": ("key", "reverse"), "min": ("key", "default"), "max": ("key", "default"), "sum": ("start",),
    "enumerate": ("start",), "zip": ("strict",),
}
METHODS = (
    "append clear copy count endswith extend find get index insert isalnum isalpha isdigit islower isspace isupper"
    " items join keys ljust lower lstrip partition pop remove replace reverse rfind rjust rpartition rsplit rstrip"
    " setdefault split splitlines startswith strip update upper values zfill bit_length"
).split()
NOWHERE = "register mro elements open input law version_info with_traceback add_note".split()
NO_NAMES = (
    "attrgetter breakpoint builtins compile copyright credits delattr dir eval exec exit gc getattr globals hasattr"
    " help id importlib license locals methodcaller os quit setattr super type vars sys"
).split()
NO_ATTRIBUTES = (
    "items keys values pop update append clear extend insert remove reverse setdefault sort args encode decode hex"
    " fromhex format format_map mro"
).split()
PLAIN_NAME = re.compile(r"_|_?[A-Za-z][A-Za-z0-9_]*", re.A)


def check(package):
    """Notes the breaches of all files of a package."""
    methods, attributes = package.own_methods(), package.own_attributes()
    for file in package.files.values():
        for node in ast.walk(file.tree):
            check_identifiers(file, node)
            if isinstance(node, (ast.FunctionDef, ast.Lambda)):
                check_function(file, node)
            if isinstance(node, ast.Name) and isinstance(node.ctx, ast.Load):
                check_name(file, node)
            if isinstance(node, ast.Call):
                check_call(package, file, node, methods, attributes)
            if isinstance(node, ast.Attribute):
                check_attribute(file, node, methods, attributes)


def identifiers(node):
    """The names that a node binds, and then the other words that it tells."""
    if isinstance(node, (ast.FunctionDef, ast.ClassDef)):
        return [node.name], []
    if isinstance(node, ast.arg):
        return [node.arg], []
    if isinstance(node, ast.ExceptHandler) and node.name:
        return [node.name], []
    if isinstance(node, ast.Name):
        return ([], [node.id]) if isinstance(node.ctx, ast.Load) else ([node.id], [])
    if isinstance(node, ast.Attribute):
        return [], [node.attr]
    if isinstance(node, ast.keyword) and node.arg:
        return [], [node.arg]
    return [], []


def check_identifiers(file, node):
    """Names are plain, and none is barred or that of a builtin."""
    bound, told = identifiers(node)
    is_method = isinstance(node, ast.FunctionDef) and isinstance(file.parent(node), ast.ClassDef)
    for name in bound + told:
        if name in NOWHERE:
            file.breach(node, "L17", f"the name {name}")
        if not PLAIN_NAME.fullmatch(name) and not (is_method and name.endswith("__")) and "__" in name:
            if not (isinstance(node, ast.Attribute) and name == "__init__"):
                file.breach(node, "L12", f"the name {name} is not plain")
    for name in bound:
        if name in NO_NAMES:
            file.breach(node, "L17", f"the name {name}")
        if hasattr(builtins, name) and not is_method or name in CALLED:
            file.breach(node, "L15", f"{name} has the name of a builtin")


def bound_in(scope):
    """The names that a function, a lambda or a comprehension binds itself."""
    if isinstance(scope, COMPREHENSIONS):
        return {node.id for part in scope.generators for node in ast.walk(part.target) if isinstance(node, ast.Name)}
    spec = scope.args
    told = spec.posonlyargs + spec.args + spec.kwonlyargs + [part for part in (spec.vararg, spec.kwarg) if part]
    names = {part.arg for part in told}
    if isinstance(scope, ast.Lambda):
        return names
    for node in ast.walk(scope):
        if node is not scope:
            names.update(identifiers(node)[0])
    return names


def check_function(file, node):
    """Lines, decorators, defaults and locals of a function."""
    if isinstance(node, ast.FunctionDef):
        if node.end_lineno - node.lineno + 1 > 40:
            file.breach(node, "L10", "more than 40 lines")
        if node.decorator_list and not isinstance(file.parent(node), ast.ClassDef):
            file.breach(node, "L4", "a decorator")
        if node.returns or any(isinstance(part, ast.arg) and part.annotation for part in ast.walk(node.args)):
            file.breach(node, "L21", "an annotation")
    for part in node.args.defaults + [part for part in node.args.kw_defaults if part]:
        if not isinstance(part, (ast.Constant, ast.Tuple, ast.Name, ast.UnaryOp)):
            file.breach(node, "L4", "a default that is not plain")
    for name in bound_in(node) & set(list(file.imports) + list(file.classes)):
        file.breach(node, "L15", f"{name} has the name of a class or an import")
    for name in bound_in(node) & set(file.functions):
        file.breach(node, "L15", f"{name} has the name of a function of the file")


def check_name(file, node):
    """A name that is read is bound around it, at module level, or is a builtin of L8."""
    if node.id == "_":
        file.breach(node, "L12", "_ is read")
    if any(node.id in bound_in(scope) for scope in file.scopes_around(node)):
        return
    if node.id in file.defined() or node.id in file.imports:
        return
    if node.id == "property" and is_decorator_of_method(file, node):
        return
    if node.id not in CALLED and node.id not in ERRORS and not (node.id == "print" and file.name == "__main__.py"):
        file.breach(node, "L8", f"{node.id} is neither bound nor a builtin that is used")
    if node.id in CALLED and not is_builtin_in_place(file, node):
        file.breach(node, "L22", f"{node.id} is kept or passed on")


def is_decorator_of_method(file, node):
    """Whether a name is the one decorator of a method."""
    around = file.parent(node)
    return isinstance(around, ast.FunctionDef) and around.decorator_list == [node]


def is_builtin_in_place(file, node):
    """Whether a builtin is called, or stands where it may stand uncalled."""
    around = file.parent(node)
    if isinstance(around, ast.Tuple):
        around = file.parent(around)
    if isinstance(around, ast.keyword) and around.arg == "key":
        return True
    if not isinstance(around, ast.Call):
        return False
    return around.func is node or around.func.id in ("isinstance", "map")


def check_call(package, file, node, methods, attributes):
    """Keywords of builtins and of their methods; how many arguments own functions are passed."""
    keywords = [part.arg for part in node.keywords]
    if isinstance(node.func, ast.Attribute):
        if node.func.attr not in METHODS and node.func.attr not in methods and node.func.attr not in attributes:
            if node.func.attr not in ("add", "discard", "sort", "__init__"):
                file.breach(node, "L25", f"the method {node.func.attr}")
        if keywords and node.func.attr in METHODS:
            file.breach(node, "L25", "a keyword")
    elif isinstance(node.func, ast.Name):
        made = package.resolve(file, node.func.id)
        if node.func.id in CALLED and any(word not in KEYWORDS.get(node.func.id, ()) for word in keywords):
            file.breach(node, "L22", "a keyword of a builtin")
        if isinstance(made, ast.FunctionDef):
            check_passed(file, node, made, keywords)
    elif not isinstance(node.func, ast.Subscript):
        file.breach(node, "L7", "a call of what is neither a name, an attribute nor an item")


def check_passed(file, node, made, keywords):
    """A call passes just what an own function takes."""
    if any(isinstance(part, ast.Starred) for part in node.args) or None in keywords:
        return
    spec = made.args
    places = [part.arg for part in spec.posonlyargs + spec.args]
    needed = places[:len(places) - len(spec.defaults)]
    needed += [part.arg for part, default in zip(spec.kwonlyargs, spec.kw_defaults) if default is None]
    passed = places[:len(node.args)] + keywords
    known = places + [part.arg for part in spec.kwonlyargs]
    if len(node.args) > len(places) or set(needed) - set(passed) or set(passed) - set(known):
        file.breach(node, "L22", f"{made.name} is not passed what it takes")


def check_attribute(file, node, methods, attributes):
    """Attributes that are stored and read."""
    if isinstance(node.ctx, ast.Store) and node.attr in NO_ATTRIBUTES:
        file.breach(node, "L26", f"the attribute {node.attr}")
    if isinstance(node.ctx, ast.Store) and not isinstance(node.value, ast.Name):
        file.breach(node, "L18", f"the attribute {node.attr} is not assigned through a name")
    around = file.parent(node)
    is_called = isinstance(around, ast.Call) and around.func is node
    if not is_called and node.attr not in attributes and isinstance(node.ctx, ast.Load):
        is_key = isinstance(around, ast.keyword) and around.arg == "key" and node.attr in methods
        if not is_key:
            file.breach(node, "L18", f"the attribute {node.attr} is assigned nowhere")
