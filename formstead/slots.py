"""The two slots of a device: where their cells are, and what they hold."""

LEAST_WIDTH = 26
MOST_WIDTH = 9000
# What a slot has besides its word cells: HEAD, COUNT, SUM and TAIL.
MORE_CELLS = 4


def width_of(device):
    """How many word cells each slot of a device has."""
    return len(device) // 2 - MORE_CELLS


def head_cell(device, slot):
    """The cell of a slot's HEAD; COUNT, SUM and the word cells stand behind it."""
    return slot * (len(device) // 2)


def tail_cell(device, slot):
    """The cell of a slot's TAIL."""
    return head_cell(device, slot) + len(device) // 2 - 1


def words_cell(device, slot):
    """The first word cell of a slot."""
    return head_cell(device, slot) + 3


def held_in(device, slot):
    """The turn and the tuple that a slot holds; None if it holds nothing."""
    head = head_cell(device, slot)
    turn, count, total = device[head:head + 3]
    words = device[words_cell(device, slot):tail_cell(device, slot)]
    if turn <= 0 or turn != device[tail_cell(device, slot)] or not 0 <= count <= len(words):
        return None
    if total != turn + count + sum(words) or any([word != 0 for word in words[count:]]):
        return None
    return (turn, words[:count])


def current_slot(device):
    """The slot that holds something, of two the one with the greater turn; None if none does."""
    found = None
    for slot in (0, 1):
        held = held_in(device, slot)
        if held is not None and (found is None or held[0] > held_in(device, found)[0]):
            found = slot
    return found


def held_now(device):
    """What the current slot holds, as held_in tells it; None if none is current."""
    slot = current_slot(device)
    return None if slot is None else held_in(device, slot)
