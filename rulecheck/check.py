"""All checks of a package, one behind the other."""

from rulecheck import functions, modules, statements, texts
from rulecheck.source import Package, read_package


def breaches_of_package(package):
    """The breaches in the files of a package, each once, in the order of files and lines."""
    for file in package.files.values():
        texts.check(file)
    modules.check(package)
    functions.check(package)
    statements.check(package)
    return sorted({breach for file in package.files.values() for breach in file.breaches})


def breaches_of_texts(name, written):
    """The breaches of a package that is told as a dict of file names and texts."""
    return breaches_of_package(Package(name, written))


def breaches_of_folder(folder):
    """The breaches of the package in a folder."""
    package, wrong = read_package(folder)
    return wrong + breaches_of_package(package)
