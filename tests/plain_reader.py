"""A second reader of texts, written in another way, against which the package's one is held."""

import re

from tests.helpers import WORDS

NAME = re.compile(r"[a-z][a-z0-9]{0,7}")
NUMERAL = re.compile(r"0|-?[1-9][0-9]{0,8}")


class Wrong(Exception):
    """A wrong text; its first argument is the place."""


class Reader:
    def __init__(self, text):
        self.text = text
        self.at = 0
        self.deep = 0
        wrong = re.search(r"[^a-z0-9\-() \n]", text)
        if wrong:
            raise Wrong(wrong.start())
        found = list(re.finditer(r"[()]|[a-z0-9\-]+", text))
        for token in found:
            if token.group() not in "()" and not NAME.fullmatch(token.group()) and not NUMERAL.fullmatch(token.group()):
                raise Wrong(token.start())
        self.tokens = [(token.start(), token.group()) for token in found]

    def token(self):
        return self.tokens[self.at][1] if self.at < len(self.tokens) else None

    def wrong(self):
        raise Wrong(self.tokens[self.at][0] if self.at < len(self.tokens) else len(self.text))

    def take(self, fits):
        if self.token() is None or not fits(self.token()):
            self.wrong()
        self.at += 1
        return self.tokens[self.at - 1]

    def opening(self):
        if self.deep == 60:
            self.wrong()
        self.take(lambda token: token == "(")
        self.deep += 1

    def closing(self):
        self.take(lambda token: token == ")")
        self.deep -= 1

    def part(self):
        """("leaf", place, token) or ("use", word, [(names, part), ..])."""
        if self.token() == "(":
            self.opening()
            return self.use()
        return ("leaf",) + self.take(lambda token: token != ")")

    def use(self):
        word = self.take(lambda token: token in WORDS)[1]
        parts = []
        for many in WORDS[word]:
            names = [self.take(NAME.fullmatch)[1] for _ in range(many)]
            parts.append((names, self.part()))
        self.closing()
        return ("use", word, parts)

    def source(self):
        """The boxes as (place, name, part), and the last part."""
        boxes = []
        if self.token() == "(" and [token for _, token in self.tokens[1:2]] == ["boxes"]:
            self.opening()
            self.at += 1
            while self.token() is not None and NAME.fullmatch(self.token()):
                if [token for _, token in self.tokens[self.at + 1:self.at + 2]] == [")"]:
                    break
                place, name = self.take(NAME.fullmatch)
                boxes.append((place, name, self.part()))
            last = self.part()
            self.closing()
        else:
            last = self.part()
        if self.at < len(self.tokens):
            self.wrong()
        return boxes, last


def meaning(tree, seen, boxes, wrong):
    if tree[0] == "use":
        return (tree[1],) + tuple([meaning(part, seen + names, boxes, wrong) for names, part in tree[2]])
    _, place, token = tree
    if not NAME.fullmatch(token):
        return ("number", int(token))
    if token in seen:
        return ("name", seen[::-1].index(token))
    if token in boxes:
        return ("at", boxes.index(token))
    wrong.append(place)
    return None


def plain_read(text):
    """The source that a text tells by BOOK of the helpers, however great; raises Wrong(place)."""
    boxes, last = Reader(text).source()
    names, wrong = [name for _, name, _ in boxes], []
    for number, (place, name, _) in enumerate(boxes):
        if name in names[:number]:
            wrong.append(place)
    held = tuple([meaning(part, [], names, wrong) for _, _, part in boxes])
    term = meaning(last, [], names, wrong)
    if wrong:
        raise Wrong(min(wrong))
    return (held, term)


def plain_print(source, names):
    """The text of a source with a row of names, told in the order of the text."""
    left = list(names)

    def text(term, seen):
        if term[0] == "number":
            return str(term[1])
        if term[0] == "name":
            return seen[len(seen) - 1 - term[1]]
        if term[0] == "at":
            return boxes[term[1]]
        told = [term[0]]
        for many, part in zip(WORDS[term[0]], term[1:]):
            new = [left.pop(0) for _ in range(many)]
            told += new + [text(part, seen + new)]
        return "(" + " ".join(told) + ")"

    boxes, at = [], 0
    for part in source[0]:
        boxes.append(names[at])
        at += 1 + len(bound_names(part))
    told = []
    for part in source[0]:
        told += [left.pop(0), text(part, [])]
    told.append(text(source[1], []))
    return "(boxes " + " ".join(told) + ")" if boxes else told[0]


def bound_names(term, outward=0):
    """The names that the print of a term binds, in its order."""
    if term[0] in ("number", "name", "at"):
        return []
    names = []
    for many, part in zip(WORDS[term[0]], term[1:]):
        names += [f"x{outward + 1 + k}" for k in range(many)] + bound_names(part, outward + many)
    return names


def plain_names(source):
    """The names that the print of a source tells, in its order."""
    names = []
    for number, part in enumerate(source[0]):
        names += [f"b{number + 1}"] + bound_names(part)
    return names + bound_names(source[1])


def many_names(source):
    """How many names are told in the text of a source."""
    return len(plain_names(source))
