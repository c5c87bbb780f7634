"""The judge of memories."""

from formstead.judging import first_wrong_in


def first_wrong(value):
    """The first wrong of a value, whatever it is, as the pair (RULE, PLACE); None for a sound memory."""
    return first_wrong_in(value)


def is_sound(value):
    """Whether a value, whatever it is, is a sound memory."""
    return first_wrong_in(value) is None
