"""The words that each book has, and those that none may have."""

from formstead.kinds import is_word_of_letters

CORE_WORDS = {
    "fn": (1,),
    "again": (2,),
    "call": (0, 0),
    "pair": (0, 0),
    "plus": (0, 0),
    "minus": (0, 0),
    "times": (0, 0),
    "put": (0, 0),
    "first": (0,),
    "second": (0,),
    "box": (0,),
    "look": (0,),
    "say": (0,),
    "test": (0, 0, 0),
}
RESERVED = ("number", "name", "at", "hole", "boxes", "form")
LEAF_WORDS = ("number", "name", "at", "hole")


def core_words():
    """The core words with the numbers of names of their parts, in a dict of the caller's own."""
    return dict(CORE_WORDS)


def is_own_word(value):
    """Whether a value may be the word of an own form."""
    return is_word_of_letters(value) and value not in CORE_WORDS and value not in RESERVED
