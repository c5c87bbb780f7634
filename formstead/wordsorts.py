"""The words of memories: their four sorts, and what they tell."""

from formstead.kinds import is_whole
from formstead.patterns import GREATEST_NUMBER

GREATEST_PLACE = 999999999
KINDS = ("closure", "pair", "box")
# How many fields an object of each kind has, a closure at least and at most.
LEAST_FIELDS = (1, 2, 1)
MOST_FIELDS = (999999999, 2, 1)


def word_of_number(number):
    """The word that is a number."""
    return 4 * number


def word_of_address(place):
    """The word that is the address of a place."""
    return 4 * place + 1


def word_of_mark(mark):
    """The word that is a mark."""
    return 4 * mark + 2


def word_of_header(kind, fields):
    """The header of an object of a kind with so many fields."""
    return 4 * (8 * fields + KINDS.index(kind)) + 3


def is_number_word(word):
    """Whether a word is a number."""
    return word % 4 == 0


def is_address_word(word):
    """Whether a word is an address."""
    return word % 4 == 1


def is_mark_word(word):
    """Whether a word is a mark."""
    return word % 4 == 2


def is_header_word(word):
    """Whether a word is a header."""
    return word % 4 == 3


def told_by(word):
    """The number, the place or the mark that a word tells."""
    return word // 4


def kind_of_header(word):
    """The kind of object that a header begins."""
    return KINDS[word // 4 % 8]


def fields_of_header(word):
    """How many fields follow a header."""
    return word // 32


def read_as_word(value):
    """What a value, whatever it is, tells as a word; None for no word."""
    if not is_whole(value):
        return None
    if is_number_word(value):
        return ("number", told_by(value)) if abs(told_by(value)) <= GREATEST_NUMBER else None
    if value < 0:
        return None
    if is_header_word(value):
        return read_as_header(value)
    if told_by(value) > GREATEST_PLACE:
        return None
    return ("address" if is_address_word(value) else "mark", told_by(value))


def read_as_header(value):
    """What a number tells as a header; None for none."""
    kind, fields = value // 4 % 8, fields_of_header(value)
    if kind >= len(KINDS) or not LEAST_FIELDS[kind] <= fields <= MOST_FIELDS[kind]:
        return None
    return ("header", KINDS[kind], fields)
