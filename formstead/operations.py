"""The words of rows, and what rows take."""

from formstead.words import core_words

OP_WORDS = (
    "number", "taken", "argument", "self", "close", "call", "tail", "back", "pair", "first", "second", "test", "go",
    "plus", "minus", "times", "box", "look", "put", "say",
)
OP_NUMBERS = {
    "number": 0, "taken": 1, "argument": 2, "self": 3, "close": 4, "call": 5, "tail": 6, "back": 7, "pair": 8,
    "first": 9, "second": 10, "test": 11, "go": 12, "plus": 13, "minus": 14, "times": 15, "box": 16, "look": 17,
    "put": 18, "say": 19,
}
# The rows that take their operands, and put one in their place.
TAKING = ("call", "pair", "first", "second", "plus", "minus", "times", "box", "look", "put", "say")
# The rows that may stand right ahead of a close for what it captures.
CAPTURING = ("taken", "argument", "self")


def op_word(op):
    """The word of a row's OP; None for what is none."""
    return OP_WORDS[op] if 0 <= op < len(OP_WORDS) else None


def operands_of(word):
    """How many operands a row of this word takes, which is a core word."""
    return len(core_words()[word])
