"""The errors that are told for devices and their writes."""

from formstead.errors import InvalidDevice, InvalidNumber, InvalidWrites
from formstead.kinds import is_whole, is_whole_within
from formstead.slots import LEAST_WIDTH, MORE_CELLS


def check_device(device):
    """Refuses what is no device."""
    if not isinstance(device, tuple) or len(device) % 2 != 0 or len(device) < 2 * (LEAST_WIDTH + MORE_CELLS):
        raise InvalidDevice(None)
    for index, number in enumerate(device):
        if not is_whole(number):
            raise InvalidDevice(index)


def check_writes(device, writes):
    """Refuses what are no writes of a device."""
    if not isinstance(writes, tuple):
        raise InvalidWrites(None)
    for index, write in enumerate(writes):
        if not is_write(device, write):
            raise InvalidWrites(index)


def is_write(device, value):
    """Whether a value is a write of a device."""
    if not isinstance(value, tuple) or len(value) != 2:
        return False
    return is_whole_within(value[0], 0, len(device) - 1) and is_whole(value[1])


def check_cut(writes, many, torn):
    """Refuses what tells no cut in these writes."""
    if not is_whole_within(many, 0, len(writes)):
        raise InvalidNumber(many)
    if torn is not None and (not is_whole(torn) or many == len(writes)):
        raise InvalidNumber(torn)
