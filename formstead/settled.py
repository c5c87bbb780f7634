"""Forms put back, overlaps, and settled books."""

from formstead.arguments import check_pattern
from formstead.errors import DoesNotStand
from formstead.folding import folded_pattern, standing, use_at
from formstead.forms import words_of
from formstead.overlapping import least_of, least_of_any, overlaps_of
from formstead.places import with_part


def stands(book, pattern):
    """All pairs (PLACE, FORM) of a place and the index of a form that stands there, in the order of folding."""
    words = words_of(book)
    check_pattern(words, pattern)
    return standing(words, book, pattern)


def put_back(book, pattern, place, form):
    """The pattern with the form put back that stands at a place."""
    words = words_of(book)
    check_pattern(words, pattern)
    use = use_at(words, book, pattern, place, form)
    if use is None:
        raise DoesNotStand()
    return with_part(pattern, place, use)


def folded(book, pattern):
    """The pattern folded."""
    words = words_of(book)
    check_pattern(words, pattern)
    return folded_pattern(words, book, pattern)


def overlaps(book):
    """All overlaps of the forms of a book, ascending, as triples (FORM, PLACE, FORM)."""
    return overlaps_of(words_of(book), book)


def least_pattern(book, first, place, second):
    """The least pattern in which both forms of an overlap stand."""
    return least_of_any(words_of(book), book, first, place, second)


def is_settled(book):
    """Whether all ways of putting forms back come to one folded pattern, for all patterns."""
    return not overlaps_of(words_of(book), book)


def parting(book):
    """A pattern and two unlike folded patterns that come of it by putting forms back; None for a settled book."""
    words = words_of(book)
    found = overlaps_of(words, book)
    if not found:
        return None
    first, place, second = found[0]
    least = least_of(words, book, first, place, second)
    ways = [
        with_part(least, (), use_at(words, book, least, (), first)),
        with_part(least, place, use_at(words, book, least, place, second)),
    ]
    return (least, *[folded_pattern(words, book, way) for way in ways])
