"""The right shape of the text of a source: the third check."""

from formstead.errors import InvalidText
from formstead.kinds import is_name

MAX_OPEN = 60


class SourceShape:
    """What may come next in the text of a source."""

    def __init__(self, words):
        self.words = words

    def role(self, wanted, token, behind):
        """The role of a token where something is wanted; None if it cannot stand there."""
        return role_of(self.words, wanted, token, behind)

    def due_behind(self, wanted, role, token):
        """What is due behind a token, ahead of what was due already."""
        return due_behind(self.words, wanted, role, token)


def rows_of_source(words, tokens, end):
    """The tokens of a source as rows, as rows_of_shape tells them."""
    return rows_of_shape(SourceShape(words), ["source"], tokens, end)


def rows_of_shape(shape, due, tokens, end):
    """The tokens as rows (ROLE, PLACE, TOKEN); raises InvalidText for the first one at which no text goes on.

    The roles are "open", "close", "word", "boxes", "box" (the name of a box), "bound" (a name that a part binds),
    "named" (a name that stands for a part) and "number"; the text of a book has further ones. DUE is a list of what a
    text begins with, END the place to be told if the text ends too soon.
    """
    rows, due, still_open = [], list(due), 0
    for index, (place, token) in enumerate(tokens):
        wanted = due.pop() if due else "nothing"
        behind = tokens[index + 1][1] if index + 1 < len(tokens) else None
        role = shape.role(wanted, token, behind)
        if role is None or role == "open" and still_open == MAX_OPEN:
            raise InvalidText(place)
        if role in ("open", "close"):
            still_open += 1 if role == "open" else -1
        rows.append((role, place, token))
        due.extend(shape.due_behind(wanted, role, token)[::-1])
    if due:
        raise InvalidText(end)
    return rows


def role_of(words, wanted, token, behind):
    """The role of a token where something is wanted; None if it cannot stand there.

    Only behind "boxes" does it hang on the token that comes behind: ahead of a bracket that closes a name is the last
    part there, otherwise the name of a box.
    """
    if wanted == "nothing":
        return None
    if wanted == "close":
        return "close" if token == ")" else None
    if wanted == "bound":
        return "bound" if is_name(token) else None
    if wanted == "head" and token == "boxes":
        return "boxes"
    if wanted in ("head", "word"):
        return "word" if token in words else None
    if wanted == "entry" and is_name(token) and behind != ")":
        return "box"
    return role_of_part(token)


def role_of_part(token):
    """The role of a token where a part is wanted; None if no part begins with it."""
    if token == ")":
        return None
    if token == "(":
        return "open"
    return "named" if is_name(token) else "number"


def due_behind(words, wanted, role, token):
    """What is due behind a token, ahead of what was due already."""
    if role == "open":
        return ["head" if wanted == "source" else "word", "close"]
    if role == "boxes":
        return ["entry"]
    if role == "box":
        return ["part", "entry"]
    return due_in_use(words[token]) if role == "word" else []


def due_in_use(names):
    """What is due behind a word of which the parts bind so many names."""
    due = []
    for many in names:
        due.extend(["bound"] * many + ["part"])
    return due
