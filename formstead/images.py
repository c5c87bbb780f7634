"""Images: devices that keep memories where a cut may come at any time."""

from formstead.arguments import check_number
from formstead.errors import NotMended
from formstead.imagearguments import check_cut, check_device, check_writes
from formstead.judging import check_memory
from formstead.slots import LEAST_WIDTH, MOST_WIDTH, current_slot, held_in, held_now
from formstead.writing import (
    blank_device, device_behind, mended_device, writes_done, writes_of_mending, writes_of_saving,
)


def blank(width):
    """The device of a width with 0 in each cell."""
    check_number(width, LEAST_WIDTH, MOST_WIDTH)
    return blank_device(width)


def held(device, slot):
    """The turn and the tuple that a slot holds; None if it holds nothing."""
    check_device(device)
    check_number(slot, 0, 1)
    return held_in(device, slot)


def current(device):
    """The current slot; None if none is."""
    check_device(device)
    return current_slot(device)


def is_mended(device):
    """Whether a device is mended."""
    check_device(device)
    return not writes_of_mending(device)


def mending(device):
    """The writes of mending a device."""
    check_device(device)
    return writes_of_mending(device)


def saving(device, memory):
    """The writes of saving a memory on a device."""
    check_device(device)
    check_memory(memory)
    return writes_of_saving(device, memory)


def written(device, writes, many, torn=None):
    """The device behind the first MANY of the writes, the next one of which may have been torn."""
    check_device(device)
    check_writes(device, writes)
    check_cut(writes, many, torn)
    return device_behind(device, writes_done(writes, many, torn))


def mended(device):
    """The device behind all writes of mending."""
    check_device(device)
    return mended_device(device)


def saved(device, memory):
    """The device behind all writes of saving a memory."""
    check_device(device)
    check_memory(memory)
    return device_behind(device, writes_of_saving(device, memory))


def taken_up(device):
    """The memory that the current slot holds; None if none is current."""
    check_device(device)
    if writes_of_mending(device):
        raise NotMended()
    found = held_now(device)
    if found is None:
        return None
    check_memory(found[1])
    return found[1]
