"""What the single elements of a value may be: whole numbers and names."""

LETTERS = "abcdefghijklmnopqrstuvwxyz"
DIGITS = "0123456789"
NAME_SIGNS = 8
WORD_SIGNS = 2


def is_whole(value):
    """Whether a value is a whole number; True and False are none."""
    return isinstance(value, int) and not isinstance(value, bool)


def is_whole_within(value, least, greatest):
    """Whether a value is a whole number from one number up to another one."""
    return is_whole(value) and least <= value <= greatest


def is_count(value):
    """Whether a value is a whole number from 0 on."""
    return is_whole(value) and value >= 0


def is_tuple_up_to(value, many):
    """Whether a value is a tuple of up to so many elements."""
    return isinstance(value, tuple) and len(value) <= many


def is_name(value):
    """Whether a value is a name: 1 to 8 small letters and digits, a letter first."""
    if not isinstance(value, str) or not 1 <= len(value) <= NAME_SIGNS:
        return False
    return value[0] in LETTERS and all([sign in LETTERS or sign in DIGITS for sign in value])


def is_word_of_letters(value):
    """Whether a value is a string of 2 to 8 small letters."""
    if not isinstance(value, str) or not WORD_SIGNS <= len(value) <= NAME_SIGNS:
        return False
    return all([sign in LETTERS for sign in value])
