"""Places in patterns, and what stands there."""

from formstead.kinds import is_whole_within
from formstead.patterns import depth_in, is_leaf, is_too_great, length_in


def is_place(pattern, place):
    """Whether a value is a place in a pattern."""
    if not isinstance(place, tuple):
        return False
    here = pattern
    for index in place:
        if is_leaf(here) or not is_whole_within(index, 0, len(here) - 2):
            return False
        here = here[1 + index]
    return True


def placed(pattern):
    """All places in a pattern, each with what stands there, ascending."""
    rows, due = [], [((), pattern)]
    while due:
        place, node = due.pop()
        rows.append((place, node))
        if not is_leaf(node):
            due.extend([(place + (index,), part) for index, part in enumerate(node[1:])][::-1])
    return rows


def part_there(pattern, place):
    """What stands at a place."""
    here = pattern
    for index in place:
        here = here[1 + index]
    return here


def with_part(pattern, place, part):
    """The pattern with a part at a place."""
    if not place:
        return part
    at = 1 + place[0]
    return pattern[:at] + (with_part(pattern[at], place[1:], part),) + pattern[at + 1:]


def is_too_great_with_part(words, pattern, place, part):
    """Whether the pattern would be too great with a part at a place."""
    return is_too_great_with_sizes(words, pattern, place, length_in(words, part), depth_in(words, part))


def is_too_great_with_sizes(words, pattern, place, length, depth):
    """Whether the pattern would be too great with something of this length and this depth at a place."""
    gone = length_in(words, part_there(pattern, place))
    # What stands beside the part is no deeper than it was in the pattern, and so never too deep.
    return is_too_great(length_in(words, pattern) - gone + length, len(place) + depth)
