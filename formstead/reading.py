"""Texts of sources read."""

from formstead.meanings import items_of
from formstead.patterns import is_too_great
from formstead.shapes import rows_of_source
from formstead.tokens import tokens_of

TOLD_NAMES = ("bound", "box")


def items_of_source(words, text):
    """The text of a source as items (ROLE, WHAT); raises InvalidText, each check over the whole text."""
    tokens = tokens_of(text)
    return items_of(rows_of_source(words, tokens, len(text)))


def are_items_too_great(items):
    """Whether a source of these items would be too great."""
    length, deepest, brackets = 0, 0, 0
    for role, _ in items:
        if role in ("word", "bound", "leaf"):
            length += 1
        if role == "leaf":
            deepest = max(deepest, brackets + 1)
        if role == "open":
            brackets += 1
        # The bracket ahead of "boxes" belongs to no term.
        if role in ("close", "boxes"):
            brackets -= 1
    return is_too_great(length, deepest)


def built(items):
    """The source of these items."""
    whole = nested_parts(items)[0]
    if whole[0] == "boxes":
        return (whole[1:-1], whole[-1])
    return ((), whole)


def nested_parts(items):
    """What the items tell, in a list; each pair of brackets is a tuple, and told names are left out."""
    uses = [[]]
    for role, what in items:
        if role == "open":
            uses.append([])
        elif role == "close":
            use = tuple(uses.pop())
            uses[-1].append(use)
        elif role not in TOLD_NAMES:
            uses[-1].append(what)
    return uses[0]
