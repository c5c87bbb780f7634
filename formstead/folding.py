"""Forms put back."""

from formstead.kinds import is_whole_within
from formstead.matching import use_standing
from formstead.places import is_place, part_there, placed, with_part


def standing(words, book, pattern):
    """All pairs (PLACE, FORM) of a place and of a form that stands there, in the order of folding."""
    return tuple([
        (place, index)
        for place, node in placed(pattern)
        for index, form in enumerate(book)
        if use_standing(words, form, node) is not None
    ])


def use_at(words, book, pattern, place, form):
    """The use that may be written at a place; None if the form does not stand there, whatever place and form are."""
    if not is_place(pattern, place) or not is_whole_within(form, 0, len(book) - 1):
        return None
    return use_standing(words, book[form], part_there(pattern, place))


def folded_pattern(words, book, pattern):
    """The pattern folded: again and again the first form is put back at the first place."""
    here, start = pattern, ()
    while start is not None:
        start, use = first_use(words, book, here, start)
        if start is not None:
            here = with_part(here, start, use)
    return here


def first_use(words, book, pattern, start):
    """The first place at which a form stands, and the use that may be written there; None and None if there is none.

    At the places ahead of START none stands, but for those around it: where a form was put back, one that is around
    it may stand now that did not stand before.
    """
    for place, node in placed(pattern):
        if place >= start or place == start[:len(place)]:
            for form in book:
                use = use_standing(words, form, node)
                if use is not None:
                    return (place, use)
    return (None, None)
