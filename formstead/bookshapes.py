"""The right shape of the text of a book: the third check."""

from formstead.forms import MAX_FORMS, MAX_NAMES, MAX_PARTS
from formstead.kinds import is_name
from formstead.shapes import due_in_use, role_of, rows_of_shape
from formstead.words import RESERVED, core_words, is_own_word


def rows_of_book(tokens, end):
    """The tokens of a book as rows, as rows_of_shape tells them.

    Further roles are "form", "own" (the WORD of a form), "told" (the name of a told hole), "sample" (a name in a told
    hole), "hole" (the name of a hole in a template) and "lent" (a name in such a hole).
    """
    return rows_of_shape(BookShape(), [], tokens, end)


class BookShape:
    """What may come next in the text of a book, behind what was passed of it."""

    def __init__(self):
        self.words = core_words()
        self.forms = 0
        self.word = None
        self.holes = {}

    def role(self, wanted, token, behind):
        """The role of a token where something is wanted; None if it cannot stand there."""
        if wanted == "nothing":
            return "open" if token == "(" and self.forms < MAX_FORMS else None
        if wanted == "form":
            return "form" if token == "form" else None
        if wanted == "own":
            return "own" if is_own_word(token) and token not in self.words else None
        if wanted in ("bracket", "further"):
            return "open" if token == "(" else None
        if wanted == "end":
            return "close" if token == ")" else None
        if wanted == "lent":
            return "lent" if is_name(token) else None
        return self.role_in_form(wanted, token, behind)

    def role_in_form(self, wanted, token, behind):
        """The role of a token in a told hole or in a template."""
        if wanted == "within":
            return self.role_within_told(token)
        if wanted in ("template", "word") and token in self.words:
            return "word"
        if wanted in ("told", "template"):
            return "told" if self.is_new_hole(token) else None
        if wanted == "word":
            return "hole" if token in self.holes else None
        return role_of(self.words, wanted, token, behind)

    def is_new_hole(self, token):
        """Whether a token may be the name of a further told hole."""
        if not is_name(token) or len(self.holes) == MAX_PARTS:
            return False
        return token not in self.words and token not in RESERVED and token not in (self.word, *self.holes)

    def role_within_told(self, token):
        """The role of a token behind the name of a told hole."""
        if token == ")":
            return "close"
        names = list(self.holes.values())[-1]
        return "sample" if is_name(token) and names < MAX_NAMES else None

    def due_behind(self, wanted, role, token):
        """What is due behind a token, ahead of what was due already; the token is passed."""
        self.pass_by(wanted, role, token)
        if role == "open":
            return self.due_in_brackets(wanted)
        if role in ("told", "sample"):
            return ["within"]
        if wanted == "within":
            return ["further"]
        if role == "hole":
            return ["lent"] * self.holes[token]
        if role != "word":
            return []
        return due_in_use(self.words[token]) + (["close"] if wanted == "template" else [])

    def due_in_brackets(self, wanted):
        """What is due behind a bracket that was opened where something is wanted."""
        if wanted == "nothing":
            return ["form", "own", "bracket", "end"]
        if wanted == "bracket":
            return ["told"]
        return ["template"] if wanted == "further" else ["word", "close"]

    def pass_by(self, wanted, role, token):
        """Keeps what a token tells of the form in which it stands."""
        if role == "own":
            self.word = token
            self.holes = {}
        elif role == "told":
            self.holes[token] = 0
        elif role == "sample":
            self.holes[list(self.holes)[-1]] += 1
        elif wanted == "end":
            self.words[self.word] = tuple(self.holes.values())
            self.forms += 1
