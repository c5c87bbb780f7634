"""Terms, patterns and sources of a book."""

from formstead.arguments import check_by, check_parts, check_pattern, check_place, check_term, check_ways
from formstead.errors import TooGreat
from formstead.forms import words_of
from formstead.leading import is_put_in_too_great, led_pattern, with_put_in
from formstead.patterns import ats_in, depth_in, fits, free_in, length_in
from formstead.places import is_too_great_with_part, part_there, with_part
from formstead.sources import fits_source


def is_term(book, value):
    """Whether a value, whatever it is, is a term of the book."""
    return fits(words_of(book), value, False)


def is_pattern(book, value):
    """Whether a value, whatever it is, is a pattern of the book."""
    return fits(words_of(book), value, True)


def is_source(book, value):
    """Whether a value, whatever it is, is a source of the book."""
    return fits_source(words_of(book), value)


def names_of(book, word):
    """The numbers of names of the parts of a word; None for what is no word of the book."""
    words = words_of(book)
    return words.get(word) if isinstance(word, str) else None


def length_of(book, pattern):
    """The length of a pattern."""
    words = words_of(book)
    check_pattern(words, pattern)
    return length_in(words, pattern)


def depth_of(book, pattern):
    """The depth of a pattern."""
    words = words_of(book)
    check_pattern(words, pattern)
    return depth_in(words, pattern)


def free_names(book, pattern):
    """The free names of a pattern, those that holes are told included, ascending."""
    words = words_of(book)
    check_pattern(words, pattern)
    return free_in(words, pattern)


def boxes_in(book, pattern):
    """The numbers of the boxes that ats mean, in the order in which they first stand."""
    words = words_of(book)
    check_pattern(words, pattern)
    return ats_in(words, pattern)


def led(book, pattern, ways, by):
    """The pattern led by the ways, and by a number where they end."""
    words = words_of(book)
    check_pattern(words, pattern)
    check_ways(ways)
    check_by(by)
    return led_pattern(words, pattern, ways, by)


def put_in(book, term, parts):
    """The term with the parts put in for its first free names."""
    words = words_of(book)
    check_term(words, term)
    check_parts(words, parts)
    if is_put_in_too_great(words, term, parts):
        raise TooGreat()
    return with_put_in(words, term, parts)


def part_at(book, pattern, place):
    """What stands at a place, as it stands."""
    words = words_of(book)
    check_pattern(words, pattern)
    check_place(pattern, place)
    return part_there(pattern, place)


def replaced(book, pattern, place, part):
    """The pattern with a part at a place, as it is."""
    words = words_of(book)
    check_pattern(words, pattern)
    check_place(pattern, place)
    check_pattern(words, part)
    if is_too_great_with_part(words, pattern, place, part):
        raise TooGreat()
    return with_part(pattern, place, part)
