"""Texts of sources: read, printed and compared."""

from formstead.arguments import check_source
from formstead.errors import Captured, InvalidNames, TooGreat
from formstead.forms import words_of
from formstead.kinds import is_name
from formstead.printing import is_captured, names_in_print, printed
from formstead.reading import are_items_too_great, built, items_of_source


def read_source(book, text):
    """The source that a text tells."""
    items = items_of_source(words_of(book), text)
    if are_items_too_great(items):
        raise TooGreat()
    return built(items)


def print_source(book, source, *, names=None):
    """The print of a source, or its text with other names, told in the order of the text."""
    words = words_of(book)
    check_source(words, source)
    plain_names = names_in_print(words, source)
    if names is None:
        return printed(words, source, plain_names)
    check_names(names, len(plain_names))
    if is_captured(words, source, list(names)):
        raise Captured()
    return printed(words, source, list(names))


def are_alike(book, text, other):
    """Whether two texts read as one source."""
    words = words_of(book)
    both = [items_of_source(words, text), items_of_source(words, other)]
    if any([are_items_too_great(items) for items in both]):
        raise TooGreat()
    return built(both[0]) == built(both[1])


def check_names(names, many):
    """Refuses what are no names, just so many."""
    if not isinstance(names, tuple) or len(names) != many:
        raise InvalidNames(None)
    for index, name in enumerate(names):
        if not is_name(name):
            raise InvalidNames(index)
