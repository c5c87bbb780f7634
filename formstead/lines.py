"""The lines that a console answers."""

from formstead.errors import InvalidName, InvalidNames
from formstead.kinds import is_tuple_up_to
from formstead.tokens import is_numeral

# Behind these words nothing is told.
BARE_WORDS = ("rest", "said", "outcome", "collect", "save", "take", "undo")
NUMERAL_WORDS = ("step", "cut")
TEXT_WORD = "load"
MOST_LINES = 20


def read_line(line):
    """A line's word, and the number or the text that is told behind it, or None; raises InvalidName for no line."""
    if not isinstance(line, str):
        raise InvalidName(line)
    word, blank, told = line.partition(" ")
    if word in BARE_WORDS and blank == "":
        return (word, None)
    if word == TEXT_WORD and blank == " ":
        return (word, told)
    if word in NUMERAL_WORDS and is_bare_numeral(told):
        return (word, int(told))
    raise InvalidName(line)


def is_bare_numeral(text):
    """Whether a text is a numeral without a sign ahead of it."""
    return text[:1] not in ("", "-") and is_numeral(text)


def told_numbers(numbers):
    """The text of numbers that were said."""
    return " ".join([str(number) for number in numbers])


def check_lines(lines):
    """Refuses what are no lines to be tried; whether each one is a line is told when it is answered."""
    if not is_tuple_up_to(lines, MOST_LINES):
        raise InvalidNames(None)
    for index, line in enumerate(lines):
        if not isinstance(line, str):
            raise InvalidNames(index)
