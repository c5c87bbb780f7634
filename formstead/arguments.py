"""The errors that are told for arguments of many functions."""

from formstead.errors import (
    InvalidNumber, InvalidParts, InvalidPlace, InvalidProgram, InvalidSizes, InvalidSource, InvalidTerm,
    InvalidWays,
)
from formstead.kinds import is_count, is_tuple_up_to, is_whole_within
from formstead.patterns import fits
from formstead.places import is_place
from formstead.sources import fits_source
from formstead.values import fits_program

MAX_PUT_IN = 8
LEAST_SIZES = (20, 1, 12, 20, 1)
MOST_SIZES = (200, 40, 60, 400, 9)


def check_term(words, term):
    """Refuses what is no term."""
    if not fits(words, term, False):
        raise InvalidTerm(term)


def check_pattern(words, pattern):
    """Refuses what is no pattern."""
    if not fits(words, pattern, True):
        raise InvalidTerm(pattern)


def check_source(words, source):
    """Refuses what is no source."""
    if not fits_source(words, source):
        raise InvalidSource(source)


def check_program(program):
    """Refuses what is no program."""
    if not fits_program(program):
        raise InvalidProgram(program)


def check_number(value, least, greatest):
    """Refuses what is no whole number from one number up to another one."""
    if not is_whole_within(value, least, greatest):
        raise InvalidNumber(value)


def check_place(pattern, place):
    """Refuses what is no place in the pattern."""
    if not is_place(pattern, place):
        raise InvalidPlace(place)


def check_ways(ways):
    """Refuses what are no ways to lead by."""
    if not is_tuple_up_to(ways, MAX_PUT_IN):
        raise InvalidWays(None)
    for index, way in enumerate(ways):
        if not is_count(way):
            raise InvalidWays(index)


def check_by(by):
    """Refuses what is no whole number from 0 on."""
    if not is_count(by):
        raise InvalidNumber(by)


def check_parts(words, parts):
    """Refuses what are no terms to be put in."""
    if not is_tuple_up_to(parts, MAX_PUT_IN):
        raise InvalidParts(None)
    for index, part in enumerate(parts):
        if not fits(words, part, False):
            raise InvalidParts(index)


def are_sizes(value):
    """Whether a value is the sizes of a memory."""
    if not isinstance(value, tuple) or len(value) != len(LEAST_SIZES):
        return False
    return all([
        is_whole_within(size, least, most) for size, least, most in zip(value, LEAST_SIZES, MOST_SIZES)
    ])


def check_sizes(sizes):
    """Refuses what are no sizes of a memory."""
    if not are_sizes(sizes):
        raise InvalidSizes(sizes)
