"""The rules 7 to 10, 13 and 14 of the judge: the objects of the nursery and of both halves.

Each function tells the least place at which its rule does not hold, None if it does; the rules ahead of it hold.
"""

from formstead.layout import PLACES, other_half, place_of_body, place_through, room_in
from formstead.wordsorts import fields_of_header, is_address_word, is_header_word, is_mark_word, is_number_word, told_by


def no_object_in_half(judged):
    """Rule 7: the objects of the half in use; they are met from here on."""
    return meet(judged, judged.told["half"], judged.told["old"], "half", False)


def no_object_beyond(judged):
    """Rule 8: those of the nursery and of the other half; they are met from here on."""
    told = judged.told
    wrong = meet(judged, told["nursery"], told["young"], "nursery", told["small"] == 1)
    if wrong is None and told["great"] == 1:
        wrong = meet(judged, other_half(judged.words), told["edge"], "other", True)
    return wrong


def meet(judged, place, end, area, with_signposts):
    """Meets the objects that stand from a place on and below the end; the place where none stands whole, or None."""
    while place < end:
        many = fields_told(judged, judged.words[place], with_signposts)
        if many is None or place + 1 + many > end:
            return place
        judged.areas[place] = area
        place += 1 + many
    return None


def fields_told(judged, word, with_signposts):
    """How many fields follow a header, or a signpost where one may stand; None for anything else."""
    if is_header_word(word):
        return fields_of_header(word)
    if with_signposts and judged.area_led_to(word) == "half":
        return fields_of_header(judged.words[told_by(word)])
    return None


def no_remembered_box(judged):
    """Rule 9: the remembered boxes."""
    begin = judged.told["remembered"]
    for place in range(begin, begin + judged.told["many"]):
        word = judged.words[place]
        if judged.area_led_to(word) != "half" or judged.kind_of(told_by(word)) != "box":
            return place
    return None


def no_field(judged):
    """Rule 10: the fields of the objects that were not moved."""
    remembered = remembered_boxes(judged)
    wrong = [
        field
        for area in ("nursery", "half", "other")
        for place in judged.unmoved(area)
        for field in judged.field_places(place)
        if not is_field_right(judged, area, place, field, remembered)
    ]
    return min(wrong) if wrong else None


def remembered_boxes(judged):
    """The places of the remembered boxes that a small collection, if one goes on, has not looked at yet."""
    begin = judged.told["remembered"]
    kept = judged.told["kept"] if judged.told["small"] == 1 else 0
    return {told_by(word): True for word in judged.words[begin + kept:begin + judged.told["many"]]}


def is_field_right(judged, area, place, field, remembered):
    """Whether what stands in a field of an object may stand there."""
    word, told = judged.words[field], judged.told
    if field == place + 1 and judged.kind_of(place) == "closure":
        return is_body_of(judged, word, fields_of_header(judged.words[place]) - 1)
    if is_number_word(word):
        return True
    led_to = judged.area_led_to(word)
    if area == "nursery":
        return led_to in ("nursery", "half")
    if area == "half" and led_to == "nursery":
        return place in remembered or told["small"] == 1 and field >= told["look"]
    if area == "half" and led_to == "other":
        return field >= told["scan"]
    return led_to == area


def is_body_of(judged, word, captured):
    """Whether a word is the mark of a body that has captured so many things."""
    if not is_mark_word(word) or told_by(word) >= judged.told["bodies"]:
        return False
    return told_by(judged.words[place_of_body(told_by(word)) + 2]) == captured


def no_room(judged):
    """Rule 13: what may still be moved, and the room for it."""
    if room_in(judged.words) < (judged.words_in("nursery") if judged.told["small"] == 1 else 0):
        return PLACES["old"]
    return None if judged.told["left"] == judged.words_in("other") else PLACES["left"]


def no_end(judged):
    """Rule 14: no way without end through fields of closures and pairs."""
    ways = {
        place: ways_from(judged, place)
        for area in ("nursery", "half", "other")
        for place in judged.unmoved(area)
    }
    left = {place: len(ways[place]) for place in ways}
    leading = {place: [] for place in ways}
    for place, targets in ways.items():
        for target in targets:
            leading[target].append(place)
    due = [place for place in left if left[place] == 0]
    while due:
        ended = due.pop()
        # From here each way comes to an end, so none of the ways that lead here goes on without one.
        for place in leading[ended]:
            left[place] -= 1
            if left[place] == 0:
                due.append(place)
    return min([place for place in left if left[place] > 0], default=None)


def ways_from(judged, place):
    """The places of the objects to which the fields of a closure or of a pair lead, signposts read through."""
    if judged.kind_of(place) == "box":
        return []
    words = [judged.words[field] for field in judged.field_places(place)]
    return [place_through(judged.words, told_by(word)) for word in words if is_address_word(word)]
