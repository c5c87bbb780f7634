"""A second reader and printer of the texts of books, written in another way."""

import re

from tests.helpers import CORE
from tests.plain_reader import NAME, Reader, Wrong, bound_names

RESERVED = ("number", "name", "at", "hole", "boxes", "form")
OWN = re.compile(r"[a-z]{2,8}")


class BookReader(Reader):
    """The forms as (WORD, HOLES, TEMPLATE), HOLES a row of (name, how many names)."""

    def forms(self):
        self.words, found = dict(CORE), []
        while self.at < len(self.tokens):
            if len(found) == 8:
                self.wrong()
            found.append(self.form())
        return found

    def form(self):
        self.opening()
        self.take(lambda token: token == "form")
        self.word = self.take(self.is_new_word)[1]
        self.holes = {}
        self.opening()
        self.told_hole()
        while True:
            self.opening()
            if self.token() in self.words:
                template = self.use()
                break
            self.told_hole()
        self.closing()
        self.words[self.word] = tuple(self.holes.values())
        return self.word, dict(self.holes), template

    def is_new_word(self, token):
        return bool(OWN.fullmatch(token)) and token not in self.words and token not in RESERVED

    def is_new_hole(self, token):
        if not NAME.fullmatch(token) or len(self.holes) == 4:
            return False
        return token not in self.words and token not in RESERVED and token != self.word and token not in self.holes

    def told_hole(self):
        name, many = self.take(self.is_new_hole)[1], 0
        while many < 2 and self.token() is not None and NAME.fullmatch(self.token()):
            self.at += 1
            many += 1
        self.closing()
        self.holes[name] = many

    def use(self):
        word = self.take(lambda token: token in self.words or token in self.holes)[1]
        if word in self.holes:
            names = [self.take(NAME.fullmatch) for _ in range(self.holes[word])]
            self.closing()
            return ("hole", word, names)
        parts = []
        for many in self.words[word]:
            names = [self.take(NAME.fullmatch)[1] for _ in range(many)]
            parts.append((names, self.part()))
        self.closing()
        return ("use", word, parts)


def meaning(tree, seen, holes, wrong):
    def number(place, name):
        if name in seen:
            return seen[::-1].index(name)
        wrong.append(place)
        return None

    if tree[0] == "use":
        return (tree[1],) + tuple([meaning(part, seen + names, holes, wrong) for names, part in tree[2]])
    if tree[0] == "hole":
        return ("hole", list(holes).index(tree[1])) + tuple([number(*name) for name in tree[2]])
    if NAME.fullmatch(tree[2]):
        return ("name", number(tree[1], tree[2]))
    return ("number", int(tree[2]))


def plain_forms(text):
    """The forms that a text tells, which may be no book; raises Wrong(place)."""
    found, wrong = [], []
    for word, holes, template in BookReader(text).forms():
        found.append((word, tuple(holes.values()), meaning(template, [], holes, wrong)))
    if wrong:
        raise Wrong(min(wrong))
    return tuple(found)


def plain_print_book(book):
    """The print of a book."""
    words, lines = dict(CORE), []
    for word, names, template in book:
        told = " ".join("(" + " ".join([f"h{k + 1}"] + ["x1", "x2"][:many]) + ")" for k, many in enumerate(names))
        lines.append(f"(form {word} {told} {text_in_template(words, template, [])})")
        words[word] = names
    return "\n".join(lines)


def text_in_template(words, tree, seen):
    if tree[0] == "number":
        return str(tree[1])
    if tree[0] == "name":
        return seen[len(seen) - 1 - tree[1]]
    if tree[0] == "hole":
        return "(" + " ".join([f"h{tree[1] + 1}"] + [seen[len(seen) - 1 - k] for k in tree[2:]]) + ")"
    told = [tree[0]]
    for many, part in zip(words[tree[0]], tree[1:]):
        new = [f"x{len(seen) + 1 + k}" for k in range(many)]
        told += new + [text_in_template(words, part, seen + new)]
    return "(" + " ".join(told) + ")"
