"""Code: bodies and rows, and whether the bodies fit."""

from formstead.kinds import is_whole

MAX_CAPTURED = 1500


def are_triples(value):
    """Whether a value is a tuple of triples of whole numbers."""
    if not isinstance(value, tuple):
        return False
    for triple in value:
        if not isinstance(triple, tuple) or len(triple) != 3 or not all([is_whole(number) for number in triple]):
            return False
    return True


def fits_code(value):
    """Whether a value, whatever it is, is a pair of bodies that fit and of rows."""
    if not isinstance(value, tuple) or len(value) != 2:
        return False
    return are_triples(value[0]) and are_triples(value[1]) and are_bodies_fit(value[0], len(value[1]))


def are_bodies_fit(bodies, many):
    """Whether bodies fit beside so many rows."""
    if not bodies or bodies[0][:2] != (0, 0):
        return False
    ends = [body[0] for body in bodies[1:]] + [many]
    if not all([body[0] < end for body, end in zip(bodies, ends)]):
        return False
    return all([kind in (0, 1) and 0 <= captured <= MAX_CAPTURED for _, kind, captured in bodies])


def end_of_body(code, number):
    """The number of the row behind the last one of a body."""
    bodies, rows = code
    return bodies[number + 1][0] if number + 1 < len(bodies) else len(rows)
