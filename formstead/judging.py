"""The judge of memories: its rules in their order."""

from formstead.doing import do_small_step
from formstead.errors import InvalidMemory
from formstead.judged import Judged
from formstead.layout import ALL_REGISTERS, PLACES
from formstead.objectrules import (
    no_end, no_field, no_object_beyond, no_object_in_half, no_remembered_box, no_room,
)
from formstead.stackrules import no_frame, no_stack_word
from formstead.stores import Store
from formstead.wordrules import no_body, no_code_word, no_number, no_register, no_row, no_size, no_word

# The status in which a machine was halted by a row or by its lack of room.
HALTED = (2, 3, 4)


def first_wrong_in(value):
    """The first rule that does not hold of a value, whatever it is, and the place; None for a sound memory."""
    if not isinstance(value, tuple) or len(value) < ALL_REGISTERS:
        return (0, None)
    judged = Judged(value)
    rules = [
        no_word, no_register, no_size, no_code_word, no_body, no_row, no_number, no_object_in_half, no_object_beyond,
        no_remembered_box, no_field, no_stack_word, no_frame, no_room, no_end, no_reason,
    ]
    for rule, find in enumerate(rules):
        place = find(judged)
        if place is not None:
            return (rule, place)
    return None


def no_reason(judged):
    """Rule 15: what a status that halts the machine was set for."""
    if judged.told["status"] not in HALTED:
        return None
    store = Store(judged.words)
    store.write("status", 0)
    do_small_step(store)
    return None if store.as_memory() == judged.words else PLACES["status"]


def check_memory(memory):
    """Refuses what is no sound memory."""
    wrong = first_wrong_in(memory)
    if wrong is not None:
        raise InvalidMemory(wrong[1])
