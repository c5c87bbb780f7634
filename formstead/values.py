"""What is a value, and what is a program."""

from formstead.patterns import fits, free_in
from formstead.sources import fits_source
from formstead.words import core_words

LONE_VALUES = ("number", "at", "fn", "again")


def is_closed_value(term):
    """Whether a closed core term is a value."""
    due = [term]
    while due:
        here = due.pop()
        if here[0] == "pair":
            due.extend(here[1:])
        elif here[0] not in LONE_VALUES:
            return False
    return True


def fits_value(value):
    """Whether a value, whatever it is, is a value of programs."""
    words = core_words()
    return fits(words, value, False) and not free_in(words, value) and is_closed_value(value)


def fits_program(value):
    """Whether a value, whatever it is, is a program."""
    return fits_source(core_words(), value) and first_without_value(value) is None


def first_without_value(source):
    """The index of the first box of a source in core words that holds no value; None if each one holds one."""
    for index, box in enumerate(source[0]):
        if not is_closed_value(box):
            return index
    return None
