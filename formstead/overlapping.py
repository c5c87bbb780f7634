"""Forms that overlap, and the least patterns in which both stand."""

from formstead.errors import DoesNotStand
from formstead.kinds import is_whole_within
from formstead.leading import exchanged
from formstead.matching import is_seen
from formstead.patterns import is_leaf
from formstead.places import is_place, part_there, placed, with_part


def overlaps_of(words, book):
    """All overlaps of a book, ascending, each as a triple (FIRST, PLACE, SECOND)."""
    found = []
    for first, form in enumerate(book):
        for place, node in placed(form[2]):
            for second in range(len(book)):
                if is_place_of_overlap(first, place, node, second) and do_overlap(words, book, first, place, second):
                    found.append((first, place, second))
    return tuple(found)


def is_place_of_overlap(first, place, node, second):
    """Whether an overlap of two forms may be told at a place of the first one's template."""
    return not is_leaf(node) and (place != () or first < second)


def do_overlap(words, book, first, place, second):
    """Whether the template of one form may be laid upon that of another one at a place."""
    try:
        least_of(words, book, first, place, second)
    except DoesNotStand:
        return False
    return True


def least_of_any(words, book, first, place, second):
    """The least pattern of an overlap; raises DoesNotStand if it is none, whatever the three are."""
    if not is_whole_within(first, 0, len(book) - 1) or not is_whole_within(second, 0, len(book) - 1):
        raise DoesNotStand()
    template = book[first][2]
    if not is_place(template, place):
        raise DoesNotStand()
    if not is_place_of_overlap(first, place, part_there(template, place), second):
        raise DoesNotStand()
    return least_of(words, book, first, place, second)


def least_of(words, book, first, place, second):
    """The least pattern in which a form stands at the root and another one at a place of its template."""
    template, outward = book[first][2], 0
    for at, index in enumerate(place):
        outward += words[part_there(template, place[:at])[0]][index]
    laid = laid_upon(words, part_there(template, place), book[second][2], outward, 0)
    return numbered(words, with_part(told_ascending(words, template), place, laid))


def laid_upon(words, one, other, outward, inner):
    """A part of the first form's template with one of the second form's laid upon it.

    OUTWARD is the number of the first template's binders there, INNER that of the second one's, which are among them.
    """
    if one[0] == "hole":
        return put_under(words, one, outward, other, inner, outward)
    if other[0] == "hole":
        return put_under(words, other, inner, one, outward, outward)
    if is_leaf(one) or is_leaf(other):
        if one != other:
            raise DoesNotStand()
        return one
    if one[0] != other[0]:
        raise DoesNotStand()
    parts = [
        laid_upon(words, part, beside, outward + many, inner + many)
        for part, beside, many in zip(one[1:], other[1:], words[one[0]])
    ]
    return (one[0], *parts)


def put_under(words, hole, own, part, own_of_part, outward):
    """A part of one template that stands in the place of a hole of the other one, of which OWN binders are there.

    The holes of the part are told what they may see by both; OWN_OF_PART is the number of binders of its template.
    """

    def narrow(leaf, inside):
        if leaf[0] == "hole":
            told = [
                k for k in range(outward + inside)
                if is_seen(leaf, own_of_part + inside, k) and (k < inside or is_seen(hole, own, k - inside))
            ]
            return ("hole", leaf[1], *told)
        if leaf[0] == "name" and leaf[1] >= inside and not is_seen(hole, own, leaf[1] - inside):
            raise DoesNotStand()
        return leaf

    return exchanged(words, part, 0, narrow)


def told_ascending(words, template):
    """The template with what its holes are told in ascending order."""

    def put_in_order(leaf, _):
        return ("hole", leaf[1], *sorted(leaf[2:])) if leaf[0] == "hole" else leaf

    return exchanged(words, template, 0, put_in_order)


def numbered(words, pattern):
    """The pattern with its holes numbered from 0 on, from left to right."""
    places = [place for place, node in placed(pattern) if node[0] == "hole"]
    for number, place in enumerate(places):
        hole = part_there(pattern, place)
        pattern = with_part(pattern, place, ("hole", number, *hole[2:]))
    return pattern
