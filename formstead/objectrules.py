"""The rules 7 to 10, 13 and 14 of the judge: the objects of the nursery and of both halves.

Each function tells the least place at which its rule does not hold, None if it does; the rules ahead of it hold.
"""

from formstead.layout import PLACES, other_half, place_of_body, place_through, room_in
from formstead.wordsorts import fields_of_header, is_address_word, is_header_word, is_mark_word, is_number_word, told_by


def no_object_in_half(case):
    """Rule 7: the objects of the half in use; they are met from here on."""
    return meet(case, case.told["half"], case.told["old"], "half", False)


def no_object_beyond(case):
    """Rule 8: those of the nursery and of the other half; they are met from here on."""
    told = case.told
    wrong = meet(case, told["nursery"], told["young"], "nursery", told["small"] == 1)
    if wrong is None and told["great"] == 1:
        wrong = meet(case, other_half(case.words), told["edge"], "other", True)
    return wrong


def meet(case, place, end, area, with_signposts):
    """Meets the objects that stand from a place on and below the end; the place where none stands whole, or None."""
    while place < end:
        many = fields_told(case, case.words[place], with_signposts)
        if many is None or place + 1 + many > end:
            return place
        case.areas[place] = area
        place += 1 + many
    return None


def fields_told(case, word, with_signposts):
    """How many fields follow a header, or a signpost where one may stand; None for anything else."""
    if is_header_word(word):
        return fields_of_header(word)
    if with_signposts and case.area_led_to(word) == "half":
        return fields_of_header(case.words[told_by(word)])
    return None


def no_remembered_box(case):
    """Rule 9: the remembered boxes."""
    begin = case.told["remembered"]
    for place in range(begin, begin + case.told["many"]):
        word = case.words[place]
        if case.area_led_to(word) != "half" or case.kind_of(told_by(word)) != "box":
            return place
    return None


def no_field(case):
    """Rule 10: the fields of the objects that were not moved."""
    remembered = remembered_boxes(case)
    wrong = [
        field
        for area in ("nursery", "half", "other")
        for place in case.unmoved(area)
        for field in case.field_places(place)
        if not is_field_right(case, area, place, field, remembered)
    ]
    return min(wrong) if wrong else None


def remembered_boxes(case):
    """The places of the remembered boxes that a small collection, if one goes on, has not looked at yet."""
    begin = case.told["remembered"]
    kept = case.told["kept"] if case.told["small"] == 1 else 0
    return {told_by(word): True for word in case.words[begin + kept:begin + case.told["many"]]}


def is_field_right(case, area, place, field, remembered):
    """Whether what stands in a field of an object may stand there."""
    word, told = case.words[field], case.told
    if field == place + 1 and case.kind_of(place) == "closure":
        return is_body_of(case, word, fields_of_header(case.words[place]) - 1)
    if is_number_word(word):
        return True
    led_to = case.area_led_to(word)
    if area == "nursery":
        return led_to in ("nursery", "half")
    if area == "half" and led_to == "nursery":
        return place in remembered or told["small"] == 1 and field >= told["look"]
    if area == "half" and led_to == "other":
        return field >= told["scan"]
    return led_to == area


def is_body_of(case, word, captured):
    """Whether a word is the mark of a body that has captured so many things."""
    if not is_mark_word(word) or told_by(word) >= case.told["bodies"]:
        return False
    return told_by(case.words[place_of_body(told_by(word)) + 2]) == captured


def no_room(case):
    """Rule 13: what may still be moved, and the room for it."""
    if room_in(case.words) < (case.words_in("nursery") if case.told["small"] == 1 else 0):
        return PLACES["old"]
    return None if case.told["left"] == case.words_in("other") else PLACES["left"]


def no_end(case):
    """Rule 14: no way without end through fields of closures and pairs."""
    ways = {
        place: ways_from(case, place)
        for area in ("nursery", "half", "other")
        for place in case.unmoved(area)
    }
    left = {place: len(ways[place]) for place in ways}
    leading = {place: [] for place in ways}
    for place, targets in ways.items():
        for target in targets:
            leading[target].append(place)
    due = [place for place in left if left[place] == 0]
    while due:
        ended = due.pop()
        # From here each way comes to an end, so none of the ways that lead here goes on without one.
        for place in leading[ended]:
            left[place] -= 1
            if left[place] == 0:
                due.append(place)
    return min([place for place in left if left[place] > 0], default=None)


def ways_from(case, place):
    """The places of the objects to which the fields of a closure or of a pair lead, signposts read through."""
    if case.kind_of(place) == "box":
        return []
    words = [case.words[field] for field in case.field_places(place)]
    return [place_through(case.words, told_by(word)) for word in words if is_address_word(word)]
