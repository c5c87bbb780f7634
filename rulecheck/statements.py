"""Rules about statements and expressions (L6, L7, L9, L13, L15, L19, L20, L23, L24, L27)."""

import ast

from rulecheck.source import COMPREHENSIONS

BARRED = (ast.Global, ast.AsyncFunctionDef, ast.AsyncFor, ast.AsyncWith, ast.Await, ast.AnnAssign)
OWN_CATCHES = ("KeyError", "ZeroDivisionError", "StopIteration")
TAKERS = "list tuple dict sorted sum any all enumerate zip".split()
ONE_BY_ONE = ("zip", "enumerate", "reversed", "range", "map")
VIEWS = ("items", "keys", "values")
CHANGES = "append clear extend insert pop remove reverse setdefault update sort".split()
READERS = "len list tuple dict sorted sum min max any all enumerate zip".split()
READ_BY = "get items keys values index count copy".split()


def check(package):
    """Notes the breaches of all files of a package."""
    for file in package.files.values():
        for node in ast.walk(file.tree):
            check_kind(file, node)
            check_iterated(file, node)
            check_set(file, node)
            if isinstance(node, ast.Name):
                check_table(package, file, node)
            if isinstance(node, (ast.For,) + COMPREHENSIONS):
                check_loop(file, node)
            if isinstance(node, ast.Raise):
                check_raise(package, file, node)
            if isinstance(node, ast.ExceptHandler):
                check_handler(package, file, node)


def check_kind(file, node):
    """Kinds of nodes that are not used."""
    if isinstance(node, BARRED):
        file.breach(node, "L6", f"a node of the kind {node.__class__.__name__}")
    if isinstance(node, ast.Constant) and isinstance(node.value, (float, complex)) or is_ellipsis(node):
        file.breach(node, "L7", "a float, or dots")
    if isinstance(node, (ast.BinOp, ast.AugAssign)) and isinstance(node.op, (ast.Div, ast.MatMult)):
        file.breach(node, "L7", "the sign / or @")
    if isinstance(node, COMPREHENSIONS) and not file.scopes_around(file.parent(node)):
        file.breach(node, "L7", "a comprehension at module level")
    if isinstance(node, ast.Compare) and any(isinstance(sign, (ast.Is, ast.IsNot)) for sign in node.ops):
        sides = [node.left] + node.comparators
        if not any(isinstance(side, ast.Constant) and side.value in (None, True, False) for side in sides):
            file.breach(node, "L20", "is without None, True or False")
    if isinstance(node, ast.BinOp) and isinstance(node.op, ast.Pow):
        if not isinstance(node.right, ast.Constant) or not 0 <= node.right.value <= 64:
            file.breach(node, "L27", "an exponent that is no literal from 0 to 64")
    if isinstance(node, ast.GeneratorExp):
        around = file.parent(node)
        if not isinstance(around, ast.Call) or name_of(around.func) not in TAKERS + ["min", "max", "join"]:
            file.breach(node, "L7", "a generator expression that is not taken at once")
    if isinstance(node, ast.Starred) and isinstance(file.parent(node), ast.Set):
        file.breach(node, "L7", "a star in a set")
    if isinstance(node, ast.Starred) and isinstance(file.parent(node), ast.Call) and not is_plainly_named(node.value):
        file.breach(node, "L7", "a star in a call over what is neither a name nor an attribute")


def is_plainly_named(node):
    """Whether a node is a name or an attribute off one."""
    return isinstance(node.value if isinstance(node, ast.Attribute) else node, ast.Name)


def is_ellipsis(node):
    """Whether a node is the constant of three dots."""
    return isinstance(node, ast.Constant) and node.value is ...


def name_of(node):
    """The last name of what is called."""
    return getattr(node, "id", getattr(node, "attr", ""))


def check_iterated(file, node):
    """zip and its kin, and views of dicts, are iterated on the spot."""
    if not isinstance(node, ast.Call):
        return
    is_view = isinstance(node.func, ast.Attribute) and node.func.attr in VIEWS
    if not is_view and not (isinstance(node.func, ast.Name) and node.func.id in ONE_BY_ONE):
        return
    around = file.parent(node)
    if isinstance(around, (ast.For, ast.comprehension)) and around.iter is node:
        return
    if isinstance(around, ast.Call) and node in around.args:
        taker = name_of(around.func)
        if taker in TAKERS and around.args[0] is node or taker in ("min", "max", "join") and len(around.args) == 1:
            return
        if taker == "len" and name_of(node.func) in ("range", "items", "keys", "values"):
            return
        if taker == "reversed" and name_of(node.func) == "range":
            return
    if isinstance(around, ast.Compare) and name_of(node.func) in ("range", "keys"):
        return
    file.breach(node, "L23", f"{name_of(node.func)} is not iterated on the spot")


def check_set(file, node):
    """Sets stand where L24 says."""
    is_call = isinstance(node, ast.Call) and name_of(node.func) in ("set", "frozenset")
    if not is_call and not isinstance(node, (ast.Set, ast.SetComp)):
        return
    if isinstance(node, ast.Set):
        numbers = [part for part in node.elts if isinstance(part, ast.Constant) and isinstance(part.value, int)]
        if len(numbers) > 2:
            file.breach(node, "L13", "a set with three or more numbers")
    around = file.parent(node)
    while isinstance(around, ast.BinOp):
        around = file.parent(around)
    if isinstance(around, ast.Compare):
        return
    if isinstance(around, ast.Call) and name_of(around.func) in ("sorted", "len") and not around.keywords:
        return
    if isinstance(around, ast.Assign) and isinstance(around.targets[0], ast.Name):
        check_stored_set(file, around)
        return
    file.breach(node, "L24", "a set that stands where none may")


def check_stored_set(file, assignment):
    """A stored set is only asked and added to."""
    name = assignment.targets[0].id
    scopes = file.scopes_around(assignment)
    if not scopes:
        file.breach(assignment, "L24", "a set at module level")
        return
    for node in ast.walk(scopes[0]):
        if not isinstance(node, ast.Name) or node.id != name or node is assignment.targets[0]:
            continue
        around = file.parent(node)
        is_asked = isinstance(around, (ast.Compare, ast.If, ast.While, ast.UnaryOp))
        is_taken = isinstance(around, ast.Call) and name_of(around.func) in ("len", "sorted")
        is_changed = isinstance(around, ast.Attribute) and around.attr in ("add", "discard")
        if not is_asked and not is_taken and not is_changed:
            file.breach(node, "L24", f"the stored set {name} is used otherwise")


def check_table(package, file, node):
    """A list or a dict of module level is only read."""
    value = package.resolve(file, node.id)
    if not isinstance(value, (ast.List, ast.Dict)) or not file.scopes_around(node):
        return
    around = file.parent(node)
    if isinstance(around, ast.Subscript) and around.value is node and isinstance(around.ctx, ast.Load):
        return
    if isinstance(around, ast.Attribute) and around.attr in READ_BY:
        return
    if isinstance(around, ast.Call) and isinstance(around.func, ast.Name) and around.func.id in READERS:
        return
    if isinstance(around, ast.Compare) or isinstance(around, (ast.For, ast.comprehension)) and around.iter is node:
        return
    file.breach(node, "L15", f"{node.id} of module level is not only read")


def iterated_over(node):
    """What is iterated over, seen through enumerate, zip, reversed and views."""
    if isinstance(node, ast.Call) and name_of(node.func) in ("enumerate", "zip", "reversed"):
        return [seen for part in node.args for seen in iterated_over(part)]
    if isinstance(node, ast.Call) and isinstance(node.func, ast.Attribute) and node.func.attr in VIEWS:
        return [ast.dump(node.func.value)]
    return [ast.dump(node)] if isinstance(node, (ast.Name, ast.Attribute, ast.Subscript)) else []


def check_loop(file, loop):
    """What a loop iterates over is not changed in it."""
    if isinstance(loop, ast.For):
        over, inside = iterated_over(loop.iter), loop.body + loop.orelse
    else:
        over = [seen for part in loop.generators for seen in iterated_over(part.iter)]
        inside = [loop]
    for node in [found for part in inside for found in ast.walk(part)]:
        if isinstance(node, ast.Call) and isinstance(node.func, ast.Attribute) and node.func.attr in CHANGES:
            changed = node.func.value
        elif isinstance(node, ast.Subscript) and not isinstance(node.ctx, ast.Load):
            changed = node.value
        elif isinstance(node, ast.AugAssign):
            changed = node.target
        else:
            continue
        if ast.dump(changed).replace("Store()", "Load()") in over:
            file.breach(node, "L23", "what a loop iterates over is changed in it")


def is_error(package, file, name):
    """Whether a name is that of an own class of errors."""
    return isinstance(package.resolve(file, name), ast.ClassDef)


def check_raise(package, file, node):
    """A raise makes its error on the spot, or stands bare in a handler."""
    if node.exc is None:
        return
    made = node.exc.func if isinstance(node.exc, ast.Call) else None
    if not isinstance(made, ast.Name) or not is_error(package, file, made.id) and made.id != "TypeError":
        file.breach(node, "L19", "a raise that does not make an own error")


def check_handler(package, file, node):
    """Own errors are caught by their names, of Python's own only those that may be caught freely."""
    caught = node.type.elts if isinstance(node.type, ast.Tuple) else [node.type]
    for part in caught:
        if not isinstance(part, ast.Name) or not is_error(package, file, part.id) and part.id not in OWN_CATCHES:
            file.breach(node, "L19", "a handler for what is not caught here")
