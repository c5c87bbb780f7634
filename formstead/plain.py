"""The plain meaning of programs."""

from formstead.arguments import check_number, check_program
from formstead.steps import outcome_there, place_in, program_behind, said_by
from formstead.tidying import met_boxes, tidied_program
from formstead.values import fits_program, fits_value

MOST_STEPS = 1000


def is_value(value):
    """Whether a value, whatever it is, is a value of programs."""
    return fits_value(value)


def is_program(value):
    """Whether a value, whatever it is, is a program."""
    return fits_program(value)


def outcome_of(program):
    """What comes of a program: "step", "end", "kind" or "great"."""
    check_program(program)
    return outcome_there(program[1], place_in(program[1]))


def place_of(program):
    """The place of a program; None if its term is a value."""
    check_program(program)
    return place_in(program[1])


def met(program):
    """The numbers of the boxes in the order in which they are met."""
    check_program(program)
    return met_boxes(program)


def tidied(program):
    """The program without the boxes that are not met, the others in the order in which they are met."""
    check_program(program)
    return tidied_program(program)


def next_of(program):
    """The outcome, the next program, tidied, and the tuple of what is said."""
    check_program(program)
    return next_row(program)


def go_on(program, steps):
    """How many steps the program makes, up to STEPS, the program behind them, tidied, and all that is said."""
    check_program(program)
    check_number(steps, 0, MOST_STEPS)
    here, said = tidied_program(program), []
    for made in range(steps):
        outcome, behind, more = next_row(here)
        if outcome != "step":
            return (made, here, tuple(said))
        here = behind
        said.extend(more)
    return (steps, here, tuple(said))


def next_row(program):
    """What next_of tells."""
    place = place_in(program[1])
    outcome = outcome_there(program[1], place)
    if outcome != "step":
        return (outcome, tidied_program(program), ())
    return (outcome, program_behind(program, place), said_by(program[1], place))
