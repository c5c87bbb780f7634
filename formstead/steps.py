"""The plain steps of programs."""

from formstead.errors import TooGreat
from formstead.leading import is_put_in_too_great, with_put_in
from formstead.patterns import GREATEST_NUMBER
from formstead.places import is_too_great_with_part, part_there, with_part
from formstead.sources import is_source_too_great
from formstead.tidying import tidied_program
from formstead.values import is_closed_value
from formstead.words import core_words

# Of test only the first part is brought to a value, of all others each part is.
FIRST_ALONE = "test"
WANTED = {
    "call": (("fn", "again"),),
    "first": (("pair",),),
    "second": (("pair",),),
    "test": (("number",),),
    "plus": (("number",), ("number",)),
    "minus": (("number",), ("number",)),
    "times": (("number",), ("number",)),
    "look": (("at",),),
    "put": (("at",),),
    "say": (("number",),),
}


def place_in(term):
    """The place at which a closed core term goes on; None if it is a value."""
    if is_closed_value(term):
        return None
    place, here = [], term
    while True:
        index = first_unfinished(here)
        if index is None:
            return tuple(place)
        place.append(index)
        here = here[1 + index]


def first_unfinished(use):
    """The index of the first part that has to be brought to a value and is none; None if there is none."""
    parts = use[1:2] if use[0] == FIRST_ALONE else use[1:]
    for index, part in enumerate(parts):
        if not is_closed_value(part):
            return index
    return None


def outcome_there(term, place):
    """The outcome of a program with this term and this place."""
    if place is None:
        return "end"
    word, *parts = part_there(term, place)
    if any([part[0] not in sorts for sorts, part in zip(WANTED.get(word, ()), parts)]):
        return "kind"
    if word in ("plus", "minus", "times") and abs(reckoned(word, parts[0][1], parts[1][1])) > GREATEST_NUMBER:
        return "great"
    return "step"


def reckoned(word, left, right):
    """The sum, the difference or the product of two numbers."""
    if word == "plus":
        return left + right
    return left - right if word == "minus" else left * right


def program_behind(program, place):
    """The next program, tidied, behind the step at a place; TooGreat is raised ahead of making it."""
    words = core_words()
    boxes, term = program
    use = part_there(term, place)
    if use[0] == "call" and is_put_in_too_great(words, use[1][1], parts_of_call(use)):
        raise TooGreat()
    part = what_comes(words, boxes, use)
    if is_too_great_with_part(words, term, place, part):
        raise TooGreat()
    found = tidied_program((boxes_behind(boxes, use), with_part(term, place, part)))
    if is_source_too_great(words, found):
        raise TooGreat()
    return found


def parts_of_call(use):
    """What a call puts into the part of its function."""
    _, function, argument = use
    return (argument, function) if function[0] == "again" else (argument,)


def what_comes(words, boxes, use):
    """What comes in the place of a use that makes a step."""
    word, *parts = use
    if word == "call":
        return with_put_in(words, parts[0][1], parts_of_call(use))
    if word in ("first", "second"):
        return parts[0][1 if word == "first" else 2]
    if word == "test":
        return parts[1 if parts[0][1] == 0 else 2]
    if word in ("plus", "minus", "times"):
        return ("number", reckoned(word, parts[0][1], parts[1][1]))
    if word == "box":
        return ("at", len(boxes))
    return boxes[parts[0][1]] if word == "look" else parts[-1]


def boxes_behind(boxes, use):
    """The boxes behind the step of a use."""
    if use[0] == "box":
        return boxes + (use[1],)
    if use[0] == "put":
        number = use[1][1]
        return boxes[:number] + (use[2],) + boxes[number + 1:]
    return boxes


def said_by(term, place):
    """The tuple of what the step at a place says: one number or none."""
    use = part_there(term, place)
    return (use[1][1],) if use[0] == "say" else ()
