"""Shortest texts of core terms."""

from formstead.arguments import check_program, check_term
from formstead.forms import words_of
from formstead.shortening import count_of_texts, shortest_of_program, shortest_texts
from formstead.words import core_words


def shortest(book, term):
    """The shortest text of a core term."""
    words = words_of(book)
    check_term(core_words(), term)
    return shortest_texts(words, book, (term,))[0]


def shortest_source(book, program):
    """The source of the shortest texts of a program's boxes and of its term."""
    words = words_of(book)
    check_program(program)
    return shortest_of_program(words, book, program)


def texts(book, term):
    """How many texts a core term has."""
    words = words_of(book)
    check_term(core_words(), term)
    return count_of_texts(words, book, term)
