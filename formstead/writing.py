"""The writes by which memories are saved on devices, and devices mended."""

from formstead.errors import NoRoom, NotMended
from formstead.slots import (
    MORE_CELLS, current_slot, head_cell, held_in, held_now, tail_cell, width_of, words_cell,
)


def blank_device(width):
    """The device of a width with 0 in each cell."""
    return (0,) * (2 * (width + MORE_CELLS))


def writes_of_mending(device):
    """The writes of mending: 0 to the HEAD of each slot that holds nothing."""
    cells = [head_cell(device, slot) for slot in (0, 1) if held_in(device, slot) is None]
    return tuple([(cell, 0) for cell in cells if device[cell] != 0])


def writes_of_saving(device, memory):
    """The writes of saving a memory; raises NotMended, then NoRoom."""
    if writes_of_mending(device):
        raise NotMended()
    width = width_of(device)
    if len(memory) > width:
        raise NoRoom()
    slot, turn = slot_to_save(device), turn_to_save(device)
    head, words = head_cell(device, slot), words_cell(device, slot)
    cells = [(head, 0)]
    cells.extend([(words + index, word) for index, word in enumerate(memory + (0,) * (width - len(memory)))])
    cells.append((head + 1, len(memory)))
    cells.append((head + 2, turn + len(memory) + sum(memory)))
    cells.append((tail_cell(device, slot), turn))
    # Behind the first write HEAD is 0, so the last one is never left out.
    return tuple([(cell, number) for cell, number in cells if device[cell] != number] + [(head, turn)])


def slot_to_save(device):
    """The slot to which a memory is saved: the one that is not current."""
    return 1 if current_slot(device) == 0 else 0


def turn_to_save(device):
    """The turn of the memory that is saved next."""
    held = held_now(device)
    return 1 if held is None else held[0] + 1


def writes_done(writes, many, torn):
    """The first MANY of the writes, and, if TORN is not None, the next one with this number."""
    if torn is None:
        return writes[:many]
    return writes[:many] + ((writes[many][0], torn),)


def device_behind(device, writes):
    """The device behind writes."""
    cells = list(device)
    for cell, number in writes:
        cells[cell] = number
    return tuple(cells)


def mended_device(device):
    """The device behind all writes of mending."""
    return device_behind(device, writes_of_mending(device))
