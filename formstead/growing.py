"""Trees grown into terms, and words of a memory into values.

What is grown is counted while it grows, so what would be too great is never built; what a function captures, but does
not use, is never looked at.
"""

from formstead.errors import TooGreat
from formstead.layout import object_there, place_through
from formstead.patterns import is_leaf, is_too_great
from formstead.wordsorts import is_number_word, told_by


class Around:
    """What is around the part of a function that grows.

    LEVEL is the number of names outward of the function, KIND that of its body; OUTER is around its captured trees.
    """

    def __init__(self, level, kind, captured, outer):
        self.level = level
        self.kind = kind
        self.captured = captured
        self.outer = outer


class Grower:
    """A grower of terms that belong to one program; the words are those of a memory, if there is one."""

    def __init__(self, reader, words):
        self.reader = reader
        self.words = words
        self.length = 0
        # The numbers of the boxes that were met, by their places.
        self.met = {}

    def grown(self, tree, around, outward, depth):
        """The term that a tree tells at a place with so many names outward and of such a depth."""
        while tree[0] == "taken":
            tree, around = around.captured[tree[1]], around.outer
        if tree[0] == "word":
            tree, around = self.tree_of_word(tree[1]), None
        self.weigh(1, depth)
        if tree[0] == "close":
            return self.grown_function(tree, around, outward, depth)
        if tree[0] == "argument":
            return ("name", outward - 1 - around.level - around.kind)
        if tree[0] == "self":
            return ("name", outward - 1 - around.level)
        if is_leaf(tree):
            return tree
        return (tree[0], *[self.grown(part, around, outward, depth + 1) for part in tree[1:]])

    def grown_function(self, tree, around, outward, depth):
        """The function of a closed body."""
        _, number, *captured = tree
        kind = self.reader.bodies[number][1]
        self.weigh(kind + 1, depth)
        inside = Around(outward, kind, captured, around)
        part = self.grown(self.reader.part_of_body(number), inside, outward + kind + 1, depth + 1)
        return ("again" if kind == 1 else "fn", part)

    def weigh(self, length, depth):
        """Counts what has grown; raises TooGreat where it is too much."""
        self.length += length
        if is_too_great(self.length, depth):
            raise TooGreat()

    def tree_of_word(self, word):
        """The tree of the value that a word of the memory is; what it needs is told by words again."""
        if is_number_word(word):
            return ("number", told_by(word))
        place = place_through(self.words, told_by(word))
        kind, fields = object_there(self.words, place)
        if kind == "box":
            return ("at", self.met.setdefault(place, len(self.met)))
        if kind == "pair":
            return ("pair", *trees_of(fields))
        return ("close", told_by(fields[0]), *trees_of(fields[1:]))


def trees_of(words):
    """The trees that stand for words of a memory."""
    return [("word", word) for word in words]
