"""What is a source, and its sizes."""

from formstead.patterns import MAX_LENGTH, ats_in, depth_in, fits, free_in, is_too_great, length_in


def is_closed_over(words, term, many):
    """Whether a term has no free names, and no ats but of so many boxes."""
    return not free_in(words, term) and all([number < many for number in ats_in(words, term)])


def fits_source(words, value):
    """Whether a value, whatever it is, is a source."""
    if not isinstance(value, tuple) or len(value) != 2 or not isinstance(value[0], tuple):
        return False
    boxes, term = value
    length = 0
    for part in (*boxes, term):
        if not fits(words, part, False) or not is_closed_over(words, part, len(boxes)):
            return False
        length += length_in(words, part)
        if length > MAX_LENGTH:
            return False
    return True


def is_source_too_great(words, source):
    """Whether what is made as a source is would be too great for one."""
    parts = (*source[0], source[1])
    length = sum([length_in(words, part) for part in parts])
    return is_too_great(length, max([depth_in(words, part) for part in parts]))
