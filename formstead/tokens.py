"""The signs, the tokens and the runs of texts: the first two checks."""

from formstead.errors import InvalidText
from formstead.kinds import DIGITS, is_name

MAX_SIGNS = 100000
MAX_DIGITS = 9
BLANKS = " \n"
BRACKETS = "()"
SIGNS = "abcdefghijklmnopqrstuvwxyz0123456789-() \n"


def tokens_of(text):
    """The tokens of a text, each as (PLACE, TOKEN); raises InvalidText for wrong signs and wrong runs."""
    if not isinstance(text, str) or len(text) > MAX_SIGNS:
        raise InvalidText(None)
    for place, sign in enumerate(text):
        if sign not in SIGNS:
            raise InvalidText(place)
    tokens = parted(text)
    for place, token in tokens:
        if token not in BRACKETS and not is_name(token) and not is_numeral(token):
            raise InvalidText(place)
    return tokens


def parted(text):
    """The single brackets and the longest runs of a text, each with its place."""
    tokens, place = [], 0
    while place < len(text):
        end = end_of_run(text, place)
        if text[place] not in BLANKS:
            tokens.append((place, text[place:end]))
        place = end
    return tokens


def end_of_run(text, place):
    """Where the run ends that begins at a place, or the single bracket or blank there."""
    end = place
    while end < len(text) and text[end] not in BRACKETS and text[end] not in BLANKS:
        end += 1
    return max(end, place + 1)


def is_numeral(run):
    """Whether a run is a numeral."""
    digits = run[1:] if run[0] == "-" else run
    if not 1 <= len(digits) <= MAX_DIGITS or not all([sign in DIGITS for sign in digits]):
        return False
    return digits[0] != "0" or run == "0"
