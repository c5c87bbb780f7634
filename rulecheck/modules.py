"""Rules about imports and about what stands at module level (L2, L3, L5, L14, L15, L16, L18)."""

import ast
import builtins

LIBRARY = {
    "heapq": ("heappush", "heappop", "heapify", "heapreplace", "heappushpop"),
    "math": ("gcd", "lcm", "isqrt", "comb", "perm", "factorial"),
    "itertools": (
        "product", "combinations", "permutations", "chain", "accumulate", "pairwise", "islice", "zip_longest",
    ),
    "collections": ("defaultdict",),
    "__future__": ("annotations",),
}
METHODS = (
    "__init__ __eq__ __repr__ __str__ __len__ __enter__ __exit__ __call__ __iter__ __lt__ __le__ __gt__ __ge__ __ne__"
    " __add__ __sub__ __mul__ __neg__ __bool__ __contains__ __getitem__ __setitem__"
).split()
ERRORS = ("ValueError", "Exception", "TypeError", "KeyError", "IndexError", "LookupError")


def check(package):
    """Notes the breaches of all files of a package."""
    for file in package.files.values():
        check_body(file)
        check_imports(package, file)
        for made in file.classes.values():
            check_class(package, file, made)
    check_cycles(package)


def check_body(file):
    """What stands at module level, each name bound once."""
    bound, imports_over = [], False
    for index, node in enumerate(file.tree.body):
        if isinstance(node, (ast.Import, ast.ImportFrom)):
            if imports_over:
                file.breach(node, "L2", "an import that does not stand at the top")
            bound.extend([alias.name for alias in node.names])
            continue
        if index > 0 or not is_docstring(node):
            imports_over = True
            bound.extend(names_bound(file, node))
    for name in bound:
        if bound.count(name) > 1:
            file.breach(1, "L15", f"{name} is bound twice")
        if hasattr(builtins, name):
            file.breach(1, "L15", f"{name} has the name of a builtin")


def is_docstring(node):
    """Whether a statement is a docstring."""
    return isinstance(node, ast.Expr) and isinstance(node.value, ast.Constant) and isinstance(node.value.value, str)


def names_bound(file, node):
    """The name that a statement at module level binds."""
    if isinstance(node, (ast.FunctionDef, ast.ClassDef)):
        return [node.name]
    if isinstance(node, ast.Assign) and len(node.targets) == 1 and isinstance(node.targets[0], ast.Name):
        check_plain(file, node.value, True)
        return [node.targets[0].id]
    if not is_main_guard(file, node):
        file.breach(node, "L3", "no docstring, import, function, class or plain value")
    return []


def is_main_guard(file, node):
    """Whether a statement is the one of __main__.py that starts the program."""
    return file.name == "__main__.py" and isinstance(node, ast.If)


def check_plain(file, node, outermost):
    """A value at module level is plain, and holds no list or dict inside."""
    if isinstance(node, (ast.List, ast.Dict)) and not outermost:
        file.breach(node, "L15", "a list or a dict inside of what stands at module level")
    if isinstance(node, ast.Dict):
        inside = node.keys + node.values
    elif isinstance(node, (ast.List, ast.Tuple)):
        inside = node.elts
    elif isinstance(node, ast.BinOp):
        inside = [node.left, node.right]
    elif isinstance(node, ast.UnaryOp):
        inside = [node.operand]
    else:
        inside = []
        if not isinstance(node, (ast.Constant, ast.Name)):
            file.breach(node, "L3", "no plain value")
    for part in inside:
        check_plain(file, part, False)


def check_imports(package, file):
    """Imports by full names, from the very file that defines the name."""
    for node in ast.walk(file.tree):
        if isinstance(node, ast.Import):
            file.breach(node, "L16", "a module imported as a name")
        if not isinstance(node, ast.ImportFrom):
            continue
        if file.parent(node) is not file.tree or node.level:
            file.breach(node, "L2", "an import within a function, or with a leading dot")
        for alias in node.names:
            if alias.asname or not is_to_be_imported(package, node.module, alias.name):
                file.breach(node, "L16", f"{alias.name} is not defined in {node.module}")
            if not is_read(file, alias.name) and node.module != "__future__":
                file.breach(node, "L2", f"{alias.name} is imported, but not used")


def is_to_be_imported(package, module, name):
    """Whether a name may be imported from a module."""
    if module in LIBRARY:
        return name in LIBRARY[module]
    home = package.files.get(module)
    return home is not None and name in home.defined()


def is_read(file, name):
    """Whether a name is read anywhere in a file."""
    return any(isinstance(node, ast.Name) and node.id == name for node in ast.walk(file.tree))


def check_cycles(package):
    """No two files that import from each other, through other files neither."""
    leads = {
        module: {home for home in file.imports.values() if home in package.files}
        for module, file in package.files.items()
    }
    for module, file in package.files.items():
        seen, due = set(), list(leads[module])
        while due:
            home = due.pop()
            if home not in seen:
                seen.add(home)
                due.extend(leads[home])
        if module in seen:
            file.breach(1, "L16", "the file imports from itself, through others")


def check_class(package, file, made):
    """Bases, body and decorators of a class."""
    for base in made.bases:
        name = base.id if isinstance(base, ast.Name) else ""
        if name not in ERRORS and not isinstance(package.resolve(file, name), ast.ClassDef):
            file.breach(made, "L5", "a base class that is neither own nor an error")
    if made.decorator_list or made.keywords:
        file.breach(made, "L5", "a decorator or a keyword of a class")
    names = []
    for index, node in enumerate(made.body):
        if isinstance(node, ast.FunctionDef):
            names.append(node.name)
            if node.name.startswith("__") and node.name not in METHODS:
                file.breach(node, "L5", f"the method {node.name}")
        elif not isinstance(node, ast.Assign) and not (index == 0 and is_docstring(node)):
            file.breach(node, "L5", "neither a method nor a class value")
    stored = {
        node.attr for node in ast.walk(made) if isinstance(node, ast.Attribute) and isinstance(node.ctx, ast.Store)
    }
    for name in names:
        if name in stored or names.count(name) > 1:
            file.breach(made, "L18", f"{name} is a method twice, or an attribute, too")
