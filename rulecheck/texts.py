"""Rules about signs, lines and words of a file (L10, L12, L14, L17, L27)."""

import ast
import io
import re
import tokenize
import warnings

WORDS = (
    "type typing typing_extensions enum Enum IntEnum StrEnum Flag IntFlag Generic Protocol ABC ABCMeta namedtuple"
    " NamedTuple TypedDict TYPE_CHECKING abstractmethod"
).split()
WORD_PARTS = ("dataclass", "overload", "contextmanager")
STRING_START = re.compile(r"[A-Za-z]*")


def check(file):
    """Notes the breaches of a file."""
    lines = file.text.split("\n")
    if len(lines) - 1 > 399:
        file.breach(400, "L10", "more than 399 lines")
    for number, line in enumerate(lines, 1):
        if len(line) > 120:
            file.breach(number, "L10", "more than 120 signs")
        if any(not " " <= sign <= "~" for sign in line):
            file.breach(number, "L14", "a sign that is none from the blank to ~")
        if "_wall" in line or "_WallAttr" in line:
            file.breach(number, "L12", "a barred word")
    check_tokens(file)
    check_strings(file)
    with warnings.catch_warnings():
        warnings.simplefilter("error")
        try:
            compile(file.text, file.name, "exec")
        except (SyntaxWarning, SyntaxError, DeprecationWarning) as error:
            file.breach(1, "L27", f"Python warns: {error}")


def docstrings(file):
    """The constants that are docstrings."""
    kinds = (ast.Module, ast.ClassDef, ast.FunctionDef)
    found = []
    for node in ast.walk(file.tree):
        if isinstance(node, kinds) and node.body and isinstance(node.body[0], ast.Expr):
            if isinstance(node.body[0].value, ast.Constant):
                found.append(node.body[0].value)
    return found


def check_tokens(file):
    """Words that stand nowhere but in comments and docstrings; escapes."""
    told = {node.lineno for node in docstrings(file)}
    for token in tokenize.generate_tokens(io.StringIO(file.text).readline):
        if token.type == tokenize.STRING:
            check_escapes(file, token)
        if token.type == tokenize.COMMENT or token.type == tokenize.STRING and token.start[0] in told:
            continue
        for word in re.findall(r"\w+", token.string):
            if word in WORDS or any(part in word for part in WORD_PARTS):
                file.breach(token.start[0], "L17", f"the word {word}")


def check_escapes(file, token):
    """Escapes in strings."""
    if "b" in STRING_START.match(token.string).group().lower():
        return
    for escape in re.findall(r"\\(.)", token.string, re.S):
        if escape not in "nt\\'\"":
            file.breach(token.start[0], "L27", "an escape")


def check_strings(file):
    """What strings must not hold."""
    told = docstrings(file)
    for node in ast.walk(file.tree):
        if not isinstance(node, ast.Constant) or not isinstance(node.value, str):
            continue
        if "%" in node.value:
            file.breach(node, "L27", "a % in a string")
        if node not in told and (node.value.endswith(("._", ".__")) or "__" in node.value):
            file.breach(node, "L27", "underscores in a string")
