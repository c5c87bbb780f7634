"""Where things lie in a memory: its registers, its areas, its objects, its frames.

The memories that are looked at here are tuples or lists of words.
"""

from formstead.wordsorts import (
    fields_of_header, is_address_word, is_header_word, kind_of_header, told_by, word_of_mark, word_of_number,
)

# The registers by their names, in the order of their places.
PLACES = {
    "status": 0, "row": 1, "base": 2, "top": 3, "young": 4, "old": 5, "half": 6, "great": 7, "small": 8, "scan": 9,
    "low": 10, "look": 11, "step": 12, "kept": 13, "many": 14, "left": 15, "owed": 16, "bodies": 17, "rows": 18,
    "stack": 19, "remembered": 20, "nursery": 21, "first": 22, "size": 23, "pace": 24, "edge": 25,
}
ALL_REGISTERS = 26
# A row of this OP has a number where all other rows have a mark.
NUMBER_OP = 0


def number_at(memory, name):
    """The number of a register."""
    return told_by(memory[PLACES[name]])


def place_of_body(number):
    """The place of the first word of a body."""
    return ALL_REGISTERS + 3 * number


def place_of_row(memory, row):
    """The place of the first word of a row."""
    return ALL_REGISTERS + 3 * number_at(memory, "bodies") + 3 * row


def other_half(memory):
    """The first place of the half that is not in use."""
    first, size = number_at(memory, "first"), number_at(memory, "size")
    return first + size if number_at(memory, "half") == first else first


def is_in_nursery(memory, place):
    """Whether a place lies in the nursery."""
    return number_at(memory, "nursery") <= place < number_at(memory, "first")


def is_in_other(memory, place):
    """Whether a place lies in the half that is not in use."""
    begin = other_half(memory)
    return begin <= place < begin + number_at(memory, "size")


def is_address_in_nursery(memory, word):
    """Whether a word is the address of a place in the nursery."""
    return is_address_word(word) and is_in_nursery(memory, told_by(word))


def is_address_in_other(memory, word):
    """Whether a word is the address of a place in the half that is not in use."""
    return is_address_word(word) and is_in_other(memory, told_by(word))


def room_in(memory):
    """The free words of the half in use, without those that are kept for what may still be moved."""
    end = number_at(memory, "half") + number_at(memory, "size")
    return end - number_at(memory, "old") - number_at(memory, "left")


def place_through(memory, place):
    """The place itself, or, where an address stands there, the place that this is the address of."""
    return told_by(memory[place]) if is_address_word(memory[place]) else place


def object_there(memory, place):
    """The kind and the fields of the object at a place, signposts read through; None if there is none."""
    if place >= len(memory):
        return None
    begin = place_through(memory, place)
    if begin >= len(memory) or not is_header_word(memory[begin]):
        return None
    end = begin + 1 + fields_of_header(memory[begin])
    return (kind_of_header(memory[begin]), tuple(memory[begin + 1:end])) if end <= len(memory) else None


def kind_there(memory, place):
    """The kind of the object at a place, signposts read through."""
    return kind_of_header(memory[place_through(memory, place)])


def words_of_object(memory, place):
    """How many words the object at a place has, signposts read through."""
    return 1 + fields_of_header(memory[place_through(memory, place)])


def range_of_objects(memory, name):
    """The places from which on and below which the objects of an area stand."""
    if name == "nursery":
        return (number_at(memory, "nursery"), number_at(memory, "young"))
    if name == "half":
        return (number_at(memory, "half"), number_at(memory, "old"))
    begin = other_half(memory)
    return (begin, number_at(memory, "edge") if number_at(memory, "great") == 1 else begin)


def objects_of_area(memory, name):
    """The objects of an area as triples (PLACE, KIND, COPY), COPY being None for what was not moved."""
    place, end = range_of_objects(memory, name)
    found = []
    while place < end:
        copy = place_through(memory, place)
        found.append((place, kind_there(memory, place), None if copy == place else copy))
        place += words_of_object(memory, place)
    return tuple(found)


def frames_in(memory):
    """The frames as triples (BASE, ROW, END), the running one first, END being the place behind its last operand."""
    stack, top = number_at(memory, "stack"), number_at(memory, "top")
    if number_at(memory, "status") == 1 or top == stack:
        return []
    base, row, end = number_at(memory, "base"), number_at(memory, "row"), top
    found = [(base, row, end)]
    while base != stack + 2:
        base, row, end = told_by(memory[base - 1]), told_by(memory[base - 2]), base - 2
        found.append((base, row, end))
    return found


def sizes_in(memory):
    """The sizes of a memory."""
    begins = [number_at(memory, name) for name in ("stack", "remembered", "nursery", "first")]
    areas = [end - begin for begin, end in zip(begins, begins[1:])]
    return (*areas, number_at(memory, "size"), number_at(memory, "pace"))


def laid_out_words(sizes, code):
    """The memory of these sizes with this code, in which all areas are empty."""
    bodies, rows = code
    stack, remembered, nursery, half, pace = sizes
    told = {"bodies": len(bodies), "rows": len(rows), "size": half, "pace": pace}
    told["stack"] = told["top"] = ALL_REGISTERS + 3 * len(bodies) + 3 * len(rows)
    told["remembered"] = told["stack"] + stack
    told["nursery"] = told["young"] = told["remembered"] + remembered
    told["first"] = told["half"] = told["old"] = told["nursery"] + nursery
    words = [word_of_mark(told.get(name, 0)) for name in PLACES]
    for body in bodies:
        words.extend([word_of_mark(number) for number in body])
    for op, first, second in rows:
        told_first = word_of_number(first) if op == NUMBER_OP else word_of_mark(first)
        words.extend([word_of_mark(op), told_first, word_of_mark(second)])
    return words + [0] * (stack + remembered + nursery + 2 * half)


def code_in(memory):
    """The code of a memory."""
    numbers = [told_by(word) for word in memory[ALL_REGISTERS:number_at(memory, "stack")]]
    triples = [tuple(numbers[at:at + 3]) for at in range(0, len(numbers), 3)]
    bodies = number_at(memory, "bodies")
    return (tuple(triples[:bodies]), tuple(triples[bodies:]))
