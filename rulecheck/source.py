"""The files that are checked, and the breaches that are found in them."""

import ast
import os

BARRED_FILES = ("test", "tests", "testing", "site", "conftest", "sitecustomize", "usercustomize")


class SourceFile:
    """One file of the package: its text, its tree, and what it defines and imports at module level."""

    def __init__(self, package, name, text):
        self.package = package
        self.name = name
        self.module = package + "." + name[:-3] if name != "__init__.py" else package
        self.text = text
        self.tree = ast.parse(text)
        self.parents = {}
        for node in ast.walk(self.tree):
            for child in ast.iter_child_nodes(node):
                self.parents[child] = node
        self.functions = {node.name: node for node in self.tree.body if isinstance(node, ast.FunctionDef)}
        self.classes = {node.name: node for node in self.tree.body if isinstance(node, ast.ClassDef)}
        self.values = {
            node.targets[0].id: node.value
            for node in self.tree.body
            if isinstance(node, ast.Assign) and isinstance(node.targets[0], ast.Name)
        }
        self.imports = {
            alias.name: node.module
            for node in self.tree.body
            if isinstance(node, ast.ImportFrom)
            for alias in node.names
        }
        self.breaches = []

    def breach(self, where, rule, why):
        """Notes a breach at a node or at a line."""
        line = where if isinstance(where, int) else getattr(where, "lineno", 1)
        self.breaches.append((self.name, line, rule, why))

    def parent(self, node):
        """The node around a node."""
        return self.parents.get(node)

    def defined(self):
        """All names that this very file defines."""
        return {**self.functions, **self.classes, **self.values}

    def scopes_around(self, node):
        """The functions, lambdas and comprehensions around a node, the innermost first."""
        found = []
        while node is not None:
            if isinstance(node, SCOPES):
                found.append(node)
            node = self.parent(node)
        return found


COMPREHENSIONS = (ast.ListComp, ast.SetComp, ast.DictComp, ast.GeneratorExp)
SCOPES = (ast.FunctionDef, ast.Lambda) + COMPREHENSIONS


class Package:
    """All files of the package, by the names of their modules."""

    def __init__(self, name, texts):
        self.name = name
        self.files = {}
        for file_name, text in sorted(texts.items()):
            made = SourceFile(name, file_name, text)
            self.files[made.module] = made

    def resolve(self, file, name):
        """The node that a name at module level of a file stands for; None if the package does not define it."""
        module = file.imports.get(name)
        home = file if module is None else self.files.get(module)
        return home.defined().get(name) if home else None

    def own_methods(self):
        """The names of all methods of the package's classes."""
        return {
            node.name
            for file in self.files.values()
            for made in file.classes.values()
            for node in made.body
            if isinstance(node, ast.FunctionDef)
        }

    def own_attributes(self):
        """The names of all attributes that methods of the package assign."""
        return {
            node.attr
            for file in self.files.values()
            for node in ast.walk(file.tree)
            if isinstance(node, ast.Attribute) and isinstance(node.ctx, ast.Store)
        }


def read_package(folder):
    """The package in a folder, and the breaches of rules about what lies there."""
    texts, wrong = {}, []
    for name in sorted(os.listdir(folder)):
        path = os.path.join(folder, name)
        if name == "__pycache__":
            continue
        stem = name[:-3]
        if not name.endswith(".py") or os.path.isdir(path):
            wrong.append((name, 1, "L1", "only .py files lie in the package"))
            continue
        if not stem.replace("_", "").isalnum() or name != name.lower() or stem in BARRED_FILES:
            wrong.append((name, 1, "L14", "no plain name of a file"))
        with open(path, encoding="utf-8", newline="") as held:
            texts[name] = held.read()
    if "__init__.py" not in texts:
        wrong.append((folder, 1, "L14", "no __init__.py"))
    return Package(os.path.basename(os.path.normpath(folder)), texts), wrong
