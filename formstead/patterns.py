"""Patterns looked at: what is one, its nodes, its length and depth, its names and boxes.

The words that are passed here are a dict: each word of a book with the numbers of names of its parts.
"""

from formstead.kinds import is_count, is_whole_within
from formstead.words import LEAF_WORDS

MAX_LENGTH = 1500
MAX_DEPTH = 60
GREATEST_NUMBER = 999999999
GREATEST_HOLE = 99


def is_leaf(pattern):
    """Whether a pattern is a number, a name, an at or a hole."""
    return pattern[0] in LEAF_WORDS


def is_leaf_well_made(value, with_holes):
    """Whether a tuple that begins with the word of a leaf is such a leaf."""
    word = value[0]
    if word == "hole":
        return with_holes and is_hole_well_made(value)
    if len(value) != 2:
        return False
    if word == "number":
        return is_whole_within(value[1], -GREATEST_NUMBER, GREATEST_NUMBER)
    return is_count(value[1])


def is_hole_well_made(value):
    """Whether a tuple that begins with the word of a hole is a hole."""
    if len(value) < 2 or not is_whole_within(value[1], 0, GREATEST_HOLE):
        return False
    return all([is_count(k) for k in value[2:]])


def own_length(words, value, with_holes):
    """The length that the root of a pattern adds to those of its parts; None for what is no root of one."""
    if not isinstance(value, tuple) or not value or not isinstance(value[0], str):
        return None
    if is_leaf(value):
        return 1 if is_leaf_well_made(value, with_holes) else None
    names = words.get(value[0])
    if names is None or len(value) != 1 + len(names):
        return None
    return 1 + sum(names)


def fits(words, value, with_holes):
    """Whether a value, whatever it is, is a pattern, or, without holes, a term.

    A value may hold one part at many places, so what is looked at is bounded by the length and not by the value.
    """
    due, length = [(value, 1)], 0
    while due:
        here, depth = due.pop()
        added = own_length(words, here, with_holes)
        if added is None or depth > MAX_DEPTH:
            return False
        length += added
        if length > MAX_LENGTH:
            return False
        if not is_leaf(here):
            due.extend([(part, depth + 1) for part in here[1:]])
    return True


def nodes(words, pattern):
    """The nodes of a pattern, in the order of a text: a use ahead of its parts, these from the left.

    Each is told as (NODE, FRESH, OUTWARD, DEPTH): how many names the part binds whose root it is, how many names are
    outward of it (these ones, too), and at what depth it stands, from 1 on.
    """
    rows, due = [], [(pattern, 0, 0, 1)]
    while due:
        row = due.pop()
        rows.append(row)
        due.extend(part_rows(words, row)[::-1])
    return rows


def part_rows(words, row):
    """The parts of a node, told as nodes are told."""
    node, _, outward, depth = row
    if is_leaf(node):
        return []
    return [(part, many, outward + many, depth + 1) for part, many in zip(node[1:], words[node[0]])]


def length_in(words, pattern):
    """The length of a pattern."""
    return sum([1 + row[1] for row in nodes(words, pattern)])


def depth_in(words, pattern):
    """The depth of a pattern."""
    return max([row[3] for row in nodes(words, pattern)])


def is_too_great(length, depth):
    """Whether nothing may have such a length and such a depth."""
    return length > MAX_LENGTH or depth > MAX_DEPTH


def names_begin(node):
    """The index from which on a node tells names by their numbers; that behind its end if it tells none."""
    if node[0] == "name":
        return 1
    return 2 if node[0] == "hole" else len(node)


def free_in(words, pattern):
    """The free names of a pattern, ascending."""
    free = {}
    for node, _, outward, _ in nodes(words, pattern):
        for k in node[names_begin(node):]:
            if k >= outward:
                free[k - outward] = True
    return tuple(sorted(free))


def ats_in(words, pattern):
    """The numbers of the boxes that the ats of a pattern mean, in the order in which they first stand."""
    met = {}
    for row in nodes(words, pattern):
        if row[0][0] == "at":
            met[row[0][1]] = True
    return tuple(met)
