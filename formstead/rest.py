"""The rest of a run, read back out of a memory."""

from formstead.forms import words_of
from formstead.judging import check_memory
from formstead.resting import rest_in, text_of_rest


def rest(memory):
    """The rest of a memory: a program, tidied."""
    check_memory(memory)
    return rest_in(memory)


def rest_text(book, memory):
    """The rest as a text in the words of a book."""
    words = words_of(book)
    check_memory(memory)
    return text_of_rest(words, book, memory)


def are_at_one(memory, other):
    """Whether two memories have the same rest."""
    check_memory(memory)
    check_memory(other)
    return rest_in(memory) == rest_in(other)
