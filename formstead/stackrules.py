"""The rules 11 and 12 of the judge: the stack and its frames.

Each function tells the place at which its rule does not hold, None if it does; the rules ahead of it hold.
"""

from formstead.layout import PLACES, place_of_row, place_through
from formstead.operations import op_word
from formstead.wordsorts import is_address_word, is_header_word, is_mark_word, told_by, word_of_mark

ENDED = 1


def no_stack_word(judged):
    """Rule 11: the words in use of the stack."""
    for place in range(judged.told["stack"], judged.told["top"]):
        word = judged.words[place]
        if is_header_word(word) or is_address_word(word) and not is_address_right(judged, place, word):
            return place
    return None


def is_address_right(judged, place, word):
    """Whether an address may stand at a place of the stack."""
    area = judged.area_led_to(word)
    if area == "nursery":
        return judged.told["small"] == 0 or place >= judged.told["step"]
    if area == "other":
        return place >= judged.told["low"]
    return area == "half"


def no_frame(judged):
    """Rule 12: the frames, from the running one on to the bottom one; the first wrong one settles the place."""
    told = judged.told
    if told["status"] == ENDED:
        return no_value_at_end(judged)
    frame = JudgedFrame((told["row"], PLACES["row"]), (told["base"], PLACES["base"]), told["top"], False)
    while True:
        wrong = wrong_in_frame(judged, frame)
        if wrong is not None or frame.base == told["stack"] + 2:
            return wrong
        end = frame.base - 2
        row, base = told_by(judged.words[end]), told_by(judged.words[end + 1])
        frame = JudgedFrame((row, end), (base, end + 1), end, True)


def no_value_at_end(judged):
    """Rule 12 in status 1: nothing is left but a value."""
    told = judged.told
    rows = [
        (PLACES["row"], told["row"] == 0), (PLACES["base"], told["base"] == 0),
        (PLACES["top"], told["top"] == told["stack"] + 1),
        (told["stack"], not is_mark_word(judged.words[told["stack"]])),
    ]
    for place, is_right in rows:
        if not is_right:
            return place
    return None


class JudgedFrame:
    """A frame that is judged: its row and its base, each with the place that told it, and its end."""

    def __init__(self, row, base, end, is_caller):
        self.row, self.row_told_at = row
        self.base, self.base_told_at = base
        self.end = end
        self.is_caller = is_caller


def wrong_in_frame(judged, frame):
    """The place of what is wrong first in a frame; None if nothing is."""
    stack = judged.told["stack"]
    if not stack + 2 <= frame.base <= frame.end - 2:
        return frame.base_told_at
    closure = judged.words[frame.base]
    if not is_address_word(closure) or judged.kind_of(told_by(closure)) != "closure":
        return frame.base
    if not is_row_of_frame(judged, frame, body_of_closure(judged, closure)):
        return frame.row_told_at
    for place in range(frame.base + 1, frame.end):
        if is_mark_word(judged.words[place]):
            return place
    for place in (frame.base - 2, frame.base - 1):
        word = judged.words[place]
        if not is_mark_word(word) or frame.base == stack + 2 and word != word_of_mark(0):
            return place
    return None


def body_of_closure(judged, word):
    """The number of the body of the closure to which an address leads."""
    return told_by(judged.words[place_through(judged.words, told_by(word)) + 1])


def is_row_of_frame(judged, frame, body):
    """Whether a frame with the closure of a body may go on at its row with the operands that it has."""
    operands = frame.end - frame.base - 2 + (1 if frame.is_caller else 0)
    if frame.row >= len(judged.row_places) or judged.row_places[frame.row] != (body, operands):
        return False
    # A row with an operand ahead of it is not the first one of its body.
    return not frame.is_caller or word_of_row(judged, frame.row - 1) == "call"


def word_of_row(judged, row):
    """The word of a row."""
    return op_word(told_by(judged.words[place_of_row(judged.words, row)]))
