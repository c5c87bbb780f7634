"""The areas of a memory, and what of them is in use."""

from formstead.layout import ALL_REGISTERS, number_at, other_half, place_of_row


def area_of(memory, place):
    """The name of the area in which a place lies; None for no place of the memory."""
    for name, begin, end, _ in area_rows(memory):
        if begin <= place < end:
            return name
    return None


def is_used(memory, place):
    """Whether a place is in use; a place that the memory does not have is not."""
    return any([begin <= place < used for _, begin, _, used in area_rows(memory)])


def area_rows(memory):
    """The areas as rows (NAME, BEGIN, END, USED), USED being the place behind what is in use."""
    rows, stack = place_of_row(memory, 0), number_at(memory, "stack")
    remembered, nursery = number_at(memory, "remembered"), number_at(memory, "nursery")
    first, size = number_at(memory, "first"), number_at(memory, "size")
    half, other = number_at(memory, "half"), other_half(memory)
    edge = number_at(memory, "edge") if number_at(memory, "great") == 1 else other
    return [
        ("registers", 0, ALL_REGISTERS, ALL_REGISTERS),
        ("bodies", ALL_REGISTERS, rows, rows),
        ("rows", rows, stack, stack),
        ("stack", stack, remembered, number_at(memory, "top")),
        ("remembered", remembered, nursery, remembered + number_at(memory, "many")),
        ("nursery", nursery, first, number_at(memory, "young")),
        ("half", half, half + size, number_at(memory, "old")),
        ("other", other, other + size, edge),
    ]
