"""Rows for a machine: the code of programs, its shape, and the term that it tells."""

from formstead.arguments import check_program
from formstead.codes import fits_code
from formstead.coding import code_of_program
from formstead.decoding import Frame, RowReader
from formstead.errors import BadRows, InvalidRows
from formstead.growing import Grower
from formstead.walks import first_break_in, walked


def code_of(program):
    """The code of a program."""
    check_program(program)
    return code_of_program(program)


def row_places(code):
    """For each row the number of its body, and how many operands there are ahead of it."""
    if not fits_code(code):
        raise InvalidRows(code)
    places, broken = walked(code)
    if broken is not None:
        raise BadRows(broken)
    return tuple(places)


def is_code(value):
    """Whether a value, whatever it is, is code of the shape."""
    return fits_code(value) and first_break_in(value) is None


def term_of(code):
    """What body 0's rows tell, with a box for each thing that it takes."""
    if not fits_code(code):
        raise InvalidRows(code)
    broken = first_break_in(code)
    if broken is not None:
        raise BadRows(broken)
    reader = RowReader(code)
    boxes = Frame(None, None, [("at", number) for number in range(code[0][0][2])])
    return Grower(reader, None).grown(reader.read_rows(0, None, [], boxes), None, 0, 1)
