"""Uses of own forms opened, and what comes of them reckoned ahead."""

from formstead.leading import exchanged, led_pattern, sizes_with
from formstead.patterns import is_leaf
from formstead.places import placed
from formstead.words import CORE_WORDS


def templates_of(book):
    """The templates of a book's forms by their words."""
    return {form[0]: form[2] for form in book}


def with_holes_filled(words, template, parts):
    """The template with the parts of a use in the place of its holes, led as these tell."""

    def fill(leaf, outward):
        if leaf[0] != "hole":
            return leaf
        return led_pattern(words, parts[leaf[1]], leaf[2:][::-1], outward)

    return exchanged(words, template, 0, fill)


def sizes_filled(words, template, parts):
    """The length and the depth of a template with the parts of a use in the place of its holes."""

    def number_for(node, outward):
        return node[1] if node[0] == "hole" else None

    return sizes_with(words, template, parts, number_for)


def opened_pattern(words, templates, pattern):
    """The opened pattern; the words are those of the book.

    The depth of these calls is bounded by that of the opened pattern.
    """
    if is_leaf(pattern):
        return pattern
    parts = [opened_pattern(words, templates, part) for part in pattern[1:]]
    if pattern[0] not in templates:
        return (pattern[0], *parts)
    return with_holes_filled(words, opened_pattern(words, templates, templates[pattern[0]]), parts)


def table_of(book):
    """What a use of each word of the book adds to its opened parts: a row (OPENINGS, LENGTH, DEPTH, LEVELS).

    LEVELS are the depths at which the parts stand, DEPTH is that of what stands there besides the parts.
    """
    table = {}
    for word, names in CORE_WORDS.items():
        table[word] = (0, 1 + sum(names), 1, (2,) * len(names))
    for word, _, template in book:
        openings, length, depth, holes = measured(table, template)
        table[word] = (1 + openings, length, depth, tuple([level for _, level in sorted(holes)]))
    return table


def measured(table, pattern):
    """The openings of a pattern, the length and the depth of the opened one without its holes, and these.

    The holes are a list of pairs (NUMBER, DEPTH).
    """
    if pattern[0] == "hole":
        return (0, 0, 0, [(pattern[1], 1)])
    if is_leaf(pattern):
        return (0, 1, 1, [])
    openings, length, depth, levels = table[pattern[0]]
    holes = []
    for level, part in zip(levels, pattern[1:]):
        more_openings, more_length, depth_of_part, holes_of_part = measured(table, part)
        openings = openings + more_openings
        length = length + more_length
        depth = max(depth, level - 1 + depth_of_part)
        holes.extend([(number, level - 1 + deep) for number, deep in holes_of_part])
    return (openings, length, depth, holes)


def openings_and_sizes(table, pattern):
    """The openings of a pattern, and the length and the depth of the opened one."""
    openings, length, depth, holes = measured(table, pattern)
    return (openings, length + len(holes), max([depth] + [deep for _, deep in holes]))


def places_of_uses(templates, pattern):
    """The places of all uses of the forms that have these templates, ascending."""
    return tuple([place for place, node in placed(pattern) if node[0] in templates])
