"""Memories: words, registers, areas, objects and frames."""

from formstead.areas import area_of, is_used
from formstead.arguments import check_number, check_sizes
from formstead.errors import InvalidName
from formstead.layout import (
    PLACES, code_in, frames_in, laid_out_words, number_at, object_there, objects_of_area, place_through, sizes_in,
)
from formstead.patterns import GREATEST_NUMBER
from formstead.wordsorts import (
    GREATEST_PLACE, KINDS, LEAST_FIELDS, MOST_FIELDS, read_as_word, word_of_address, word_of_header, word_of_mark,
    word_of_number,
)

AREAS_OF_OBJECTS = ("nursery", "half", "other")


def read_word(word):
    """What a word, whatever it is, tells; None for no word."""
    return read_as_word(word)


def number_word(number):
    """The word that is a number."""
    check_number(number, -GREATEST_NUMBER, GREATEST_NUMBER)
    return word_of_number(number)


def address_word(place):
    """The word that is the address of a place."""
    check_number(place, 0, GREATEST_PLACE)
    return word_of_address(place)


def mark_word(mark):
    """The word that is a mark."""
    check_number(mark, 0, GREATEST_PLACE)
    return word_of_mark(mark)


def header_word(kind, fields):
    """The header of an object of a kind with so many fields."""
    check_name(kind, KINDS)
    index = KINDS.index(kind)
    check_number(fields, LEAST_FIELDS[index], MOST_FIELDS[index])
    return word_of_header(kind, fields)


def laid_out(sizes, code):
    """The memory of these sizes with this code in which all areas are empty."""
    check_sizes(sizes)
    return tuple(laid_out_words(sizes, code))


def read_register(memory, name):
    """The number of a register."""
    check_name(name, tuple(PLACES))
    return number_at(memory, name)


def sizes_of(memory):
    """The sizes of a memory."""
    return sizes_in(memory)


def code_at(memory):
    """The code of a memory."""
    return code_in(memory)


def area(memory, place):
    """The name of the area in which a place lies; None for no place of the memory."""
    check_number(place, 0, GREATEST_PLACE)
    return area_of(memory, place)


def in_use(memory, place):
    """Whether a place is in use."""
    check_number(place, 0, GREATEST_PLACE)
    return is_used(memory, place)


def led_to(memory, word):
    """The place to which an address of a place of the memory leads; None for anything else."""
    told = read_as_word(word)
    if told is None or told[0] != "address" or told[1] >= len(memory):
        return None
    return place_through(memory, told[1])


def object_at(memory, place):
    """The kind and the fields of the object at a place, signposts read through; None if there is none."""
    check_number(place, 0, GREATEST_PLACE)
    return object_there(memory, place)


def objects(memory, name):
    """The objects of an area as triples (PLACE, KIND, COPY), ascending."""
    check_name(name, AREAS_OF_OBJECTS)
    return objects_of_area(memory, name)


def frames(memory):
    """The frames as triples (BASE, ROW, OPERANDS), the running one first."""
    return tuple([(base, row, memory[base + 2:end]) for base, row, end in frames_in(memory)])


def check_name(name, names):
    """Refuses what is none of the names."""
    if not isinstance(name, str) or name not in names:
        raise InvalidName(name)
