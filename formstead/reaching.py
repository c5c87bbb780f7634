"""The objects that are reached from the stack."""

from formstead.layout import number_at, object_there, place_through
from formstead.wordsorts import is_address_word, told_by


def reached_in(memory):
    """The places of all reached objects, ascending, copies told and not signposts."""
    due = list(memory[number_at(memory, "stack"):number_at(memory, "top")])
    found = {}
    while due:
        word = due.pop()
        if not is_address_word(word):
            continue
        place = place_through(memory, told_by(word))
        if place not in found:
            found[place] = True
            _, fields = object_there(memory, place)
            due.extend(fields)
    return tuple(sorted(found))
