"""Shortest texts, and how many texts there are."""

from formstead.leading import led_pattern
from formstead.matching import is_seen, lying_in_holes, ways_back
from formstead.openings import opened_pattern, table_of, templates_of
from formstead.patterns import is_leaf, is_too_great
from formstead.places import placed


def fitting_forms(words, book):
    """The forms of a book, in its order, as pairs (WORD, OPENED TEMPLATE), without those that fit no term at all."""
    table, templates = table_of(book), templates_of(book)
    found = []
    for word, names, template in book:
        _, length, depth, levels = table[word]
        if not is_too_great(length + len(names), max(depth, *levels)):
            found.append((word, opened_pattern(words, templates, template)))
    return found


class Choice:
    """A word that may stand at a place of a text: its parts as rows (PLACE, WAYS, BY), and what is counted of it.

    A part's text is that of what stands at the place, led by the ways and the number.
    """

    def __init__(self, word, parts, length, many):
        self.word = word
        self.parts = parts
        self.length = length
        self.many = many


class Shortening:
    """The texts of a core term, found part by part; all that is told is told by places in the term."""

    def __init__(self, words, forms, term):
        self.words = words
        self.forms = forms
        self.nodes = {}
        self.free = {}
        self.lengths = {}
        self.counts = {}
        self.chosen = {}
        # Parts come ahead of the uses in which they stand.
        for place, node in reversed(placed(term)):
            self.nodes[place] = node
            self.free[place] = self.free_at(place, node)
            self.choose(place, node)

    def free_at(self, place, node):
        """The free names of what stands at a place, as the keys of a dict."""
        if is_leaf(node):
            return {node[1]: True} if node[0] == "name" else {}
        free = {}
        for index, many in enumerate(self.words[node[0]]):
            free.update({k - many: True for k in self.free[place + (index,)] if k >= many})
        return free

    def choose(self, place, node):
        """Chooses the word of the shortest text of what stands at a place, and counts the texts."""
        if is_leaf(node):
            self.lengths[place], self.counts[place] = 1, 1
            return
        choices = self.choices_at(place, node)
        best = choices[0]
        for choice in choices:
            if choice.length < best.length:
                best = choice
        self.chosen[place] = best
        self.lengths[place] = best.length
        self.counts[place] = sum([choice.many for choice in choices])

    def choices_at(self, place, node):
        """What may stand at a place: the core word, and the forms that fit, in the order of the book."""
        rows = [(place + (index,), (), 0) for index in range(len(node) - 1)]
        choices = [self.choice(node[0], rows)]
        for word, template in self.forms:
            rows = self.parts_of_form(place, node, template)
            if rows is not None:
                choices.append(self.choice(word, rows))
        return choices

    def choice(self, word, rows):
        """The choice of a word with these parts."""
        length, many = 1 + sum(self.words[word]), 1
        for place, _, _ in rows:
            length += self.lengths[place]
            many *= self.counts[place]
        return Choice(word, rows, length, many)

    def parts_of_form(self, place, node, template):
        """The parts of the use of a form that fits at a place; None if it does not fit."""
        rows = lying_in_holes(self.words, template, node)
        if rows is None:
            return None
        parts = []
        for hole, outward, inside, _ in rows:
            there = place + inside
            if not all([is_seen(hole, outward, k) for k in self.free[there]]):
                return None
            ways, by = ways_back(hole, outward)
            parts.append((there, ways, by))
        return parts

    def text(self, place):
        """The shortest text of what stands at a place, its names counted from there."""
        if place not in self.chosen:
            return self.nodes[place]
        choice = self.chosen[place]
        parts = [led_pattern(self.words, self.text(there), ways, by) for there, ways, by in choice.parts]
        return (choice.word, *parts)


def shortest_texts(words, book, terms):
    """The shortest texts of core terms; the words are those of the book."""
    forms = fitting_forms(words, book)
    return [Shortening(words, forms, term).text(()) for term in terms]


def shortest_of_program(words, book, program):
    """The source of the shortest texts of a program's boxes and of its term."""
    *boxes, term = shortest_texts(words, book, (*program[0], program[1]))
    return (tuple(boxes), term)


def count_of_texts(words, book, term):
    """How many texts a core term has."""
    return Shortening(words, fitting_forms(words, book), term).counts[()]
