"""What the next small step of a memory is."""

from formstead.collecting import has_room_for_nursery
from formstead.layout import is_address_in_nursery, kind_there, number_at, place_of_row
from formstead.operations import op_word
from formstead.patterns import GREATEST_NUMBER
from formstead.steps import reckoned
from formstead.wordsorts import is_number_word, told_by

OUTCOMES = ("runs", "ended", "kind", "great", "room")
# Of what kind the operands are that a row wants, the first of those that it takes first.
WANTED = {
    "call": ("closure", "any"),
    "tail": ("closure", "any"),
    "first": ("pair",),
    "second": ("pair",),
    "test": ("number",),
    "plus": ("number", "number"),
    "minus": ("number", "number"),
    "times": ("number", "number"),
    "look": ("box",),
    "put": ("box", "any"),
    "say": ("number",),
}
STACK_WANTED = {"number": 1, "taken": 1, "argument": 1, "self": 1, "call": 2}
NURSERY_WANTED = {"pair": 3, "box": 2}
# What a row that is done makes the plain next step of.
MAKING = ("call", "tail", "first", "second", "test", "plus", "minus", "times", "box", "look", "put", "say")


def outcome_in(memory):
    """What has come of a machine, by the status of its memory."""
    return OUTCOMES[number_at(memory, "status")]


def next_row(store):
    """The row that comes next, as (WORD, A, B)."""
    place = place_of_row(store.words, store.read("row"))
    op, first, second = [told_by(word) for word in store.words[place:place + 3]]
    return (op_word(op), first, second)


def settled(store):
    """What the next small step is.

    "none" changes nothing; "small" and "owed" are steps of collections, "great" is one in the place of a row; "begin"
    begins a small collection; "kind", "excess" and "room" are the faults and the lack of room that set status; "row" is
    the row that is done.
    """
    if store.read("status") != 0:
        return "none"
    if store.read("small") == 1:
        return "small"
    if store.read("great") == 1 and store.read("owed") > 0:
        return "owed"
    row = next_row(store)
    return fault_of_row(store, row[0]) or held_up(store, row)


def fault_of_row(store, word):
    """The fault of a row; None if it has none."""
    wanted = WANTED.get(word, ())
    operands = last_operands(store, len(wanted))
    for sort, operand in zip(wanted, operands):
        if sort not in ("any", sort_of_operand(store, operand)):
            return "kind"
    if word in ("plus", "minus", "times"):
        left, right = [told_by(operand) for operand in operands]
        if abs(reckoned(word, left, right)) > GREATEST_NUMBER:
            return "excess"
    return None


def last_operands(store, many):
    """The words of the last operands."""
    top = store.read("top")
    return store.words[top - many:top]


def sort_of_operand(store, word):
    """Whether an operand is a number, or else the kind of the object to which it leads."""
    return "number" if is_number_word(word) else kind_there(store.words, told_by(word))


def held_up(store, row):
    """What comes in the place of a row that has too little room, or "row"."""
    word, _, captured = row
    free = store.read("remembered") - store.read("top")
    if free < (1 if word == "close" and captured == 0 else STACK_WANTED.get(word, 0)):
        return "room"
    wanted = 2 + captured if word == "close" else NURSERY_WANTED.get(word, 0)
    if wanted > store.read("first") - store.read("nursery"):
        return "room"
    if wanted <= store.read("first") - store.read("young") and not (word == "put" and is_put_held_up(store)):
        return "row"
    if has_room_for_nursery(store):
        return "begin"
    return "great" if store.read("great") == 1 else "room"


def is_put_held_up(store):
    """Whether the put that comes next needs room among the remembered boxes that is not there."""
    if store.read("many") < store.read("nursery") - store.read("remembered"):
        return False
    box, value = last_operands(store, 2)
    return is_put_remembered(store, box, value)


def is_put_remembered(store, box, value):
    """Whether a box has to be remembered into which a value is put: an older box, something of the nursery."""
    return is_address_in_nursery(store.words, value) and not is_address_in_nursery(store.words, box)
