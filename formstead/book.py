"""Books, and uses of own forms opened."""

from formstead.arguments import check_pattern, check_source
from formstead.errors import InvalidBook, InvalidPlace, NoValue, TooGreat
from formstead.forms import words_of
from formstead.openings import (
    opened_pattern, openings_and_sizes, places_of_uses, sizes_filled, table_of, templates_of, with_holes_filled,
)
from formstead.patterns import is_too_great
from formstead.places import is_place, is_too_great_with_sizes, part_there, with_part
from formstead.values import first_without_value


def is_book(value):
    """Whether a value, whatever it is, is a book."""
    try:
        words_of(value)
    except InvalidBook:
        return False
    return True


def opened(book, pattern):
    """The opened pattern."""
    words = words_of(book)
    check_pattern(words, pattern)
    _, length, depth = openings_and_sizes(table_of(book), pattern)
    if is_too_great(length, depth):
        raise TooGreat()
    return opened_pattern(words, templates_of(book), pattern)


def open_places(book, pattern):
    """The places of all uses of own forms, ascending."""
    check_pattern(words_of(book), pattern)
    return places_of_uses(templates_of(book), pattern)


def opened_at(book, pattern, place):
    """The pattern with the one use opened that stands at a place."""
    words = words_of(book)
    check_pattern(words, pattern)
    templates = templates_of(book)
    if not is_place(pattern, place) or part_there(pattern, place)[0] not in templates:
        raise InvalidPlace(place)
    word, *parts = part_there(pattern, place)
    length, depth = sizes_filled(words, templates[word], parts)
    if is_too_great_with_sizes(words, pattern, place, length, depth):
        raise TooGreat()
    return with_part(pattern, place, with_holes_filled(words, templates[word], parts))


def openings_left(book, pattern):
    """After how many openings a pattern is opened."""
    check_pattern(words_of(book), pattern)
    return openings_and_sizes(table_of(book), pattern)[0]


def opened_length(book, pattern):
    """The length that a pattern has when opened, however great."""
    check_pattern(words_of(book), pattern)
    return openings_and_sizes(table_of(book), pattern)[1]


def opened_depth(book, pattern):
    """The depth that a pattern has when opened, however great."""
    check_pattern(words_of(book), pattern)
    return openings_and_sizes(table_of(book), pattern)[2]


def opened_source(book, source):
    """The program of the opened boxes and the opened term."""
    words = words_of(book)
    check_source(words, source)
    table, templates = table_of(book), templates_of(book)
    rows = [openings_and_sizes(table, part) for part in (*source[0], source[1])]
    if is_too_great(sum([row[1] for row in rows]), max([row[2] for row in rows])):
        raise TooGreat()
    boxes = tuple([opened_pattern(words, templates, box) for box in source[0]])
    program = (boxes, opened_pattern(words, templates, source[1]))
    index = first_without_value(program)
    if index is not None:
        raise NoValue(index)
    return program
