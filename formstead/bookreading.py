"""Texts of books read: the fourth check, and what is built behind it."""

from formstead.bookshapes import rows_of_book
from formstead.errors import InvalidText
from formstead.meanings import Scope, leaf_of, pass_by
from formstead.reading import nested_parts
from formstead.tokens import tokens_of


def forms_of(text):
    """The forms that a text tells, which may be no book yet; raises InvalidText, each check over the whole text."""
    rows = rows_of_book(tokens_of(text), len(text))
    return tuple([form_of(told) for told in nested_parts(items_of_book(rows))])


def items_of_book(rows):
    """The rows as items (ROLE, WHAT), in which holes stand as patterns tell them.

    Raises InvalidText for the first name that is not seen.
    """
    scope = Scope({})
    items, holes = [], []
    for role, place, token in rows:
        leaf = leaf_of(scope, role, token)
        if role in ("named", "lent") and leaf is None:
            raise InvalidText(place)
        pass_by(scope, role, token)
        if role == "form":
            holes = []
        elif role == "told":
            holes.append(token)
        items.extend(items_of_row(role, token, leaf, holes))
    return items


def items_of_row(role, token, leaf, holes):
    """The items of a row, with the names of the holes that were told ahead of it."""
    if role == "hole":
        return [("word", "hole"), ("number", holes.index(token))]
    if role == "lent":
        return [("number", leaf[1])]
    return [(role, token) if leaf is None else ("leaf", leaf)]


def form_of(told):
    """The own form that is told in a pair of brackets."""
    return (told[1], tuple([len(hole) - 1 for hole in told[2:-1]]), told[-1])
