"""Patterns with their free names led elsewhere, or with terms put in for these."""

from formstead.patterns import depth_in, is_leaf, is_too_great, length_in, names_begin, nodes


def exchanged(words, pattern, outward, exchange):
    """The pattern with each leaf exchanged for what is told of it and of the number of names outward of it."""
    if is_leaf(pattern):
        return exchange(pattern, outward)
    parts = [
        exchanged(words, part, outward + many, exchange)
        for part, many in zip(pattern[1:], words[pattern[0]])
    ]
    return (pattern[0], *parts)


def led_name(k, outward, ways, by):
    """What a name becomes that is told at a place with so many names outward."""
    free = k - outward
    if free < 0:
        return k
    if free < len(ways):
        return ways[free] + outward
    return k - len(ways) + by


def led_pattern(words, pattern, ways, by):
    """The pattern led by these ways, and by this number where they end."""

    def lead(leaf, outward):
        at = names_begin(leaf)
        return leaf[:at] + tuple([led_name(k, outward, ways, by) for k in leaf[at:]])

    return exchanged(words, pattern, 0, lead)


def part_for(node, outward, many):
    """The number of that one of so many terms which is put in for a node; None if the node is not exchanged."""
    if node[0] == "name" and outward <= node[1] < outward + many:
        return node[1] - outward
    return None


def with_put_in(words, term, parts):
    """The term with the parts put in."""

    def put(leaf, outward):
        number = part_for(leaf, outward, len(parts))
        if number is not None:
            return led_pattern(words, parts[number], (), outward)
        if leaf[0] == "name" and leaf[1] >= outward:
            return ("name", leaf[1] - len(parts))
        return leaf

    return exchanged(words, term, 0, put)


def is_put_in_too_great(words, term, parts):
    """Whether the term would be too great with the parts put in."""

    def number_for(node, outward):
        return part_for(node, outward, len(parts))

    length, depth = sizes_with(words, term, parts, number_for)
    return is_too_great(length, depth)


def sizes_with(words, pattern, parts, number_for):
    """The length and the depth of a pattern with parts in the place of nodes.

    NUMBER_FOR tells of a node and of how many names are outward of it the number of the part, or None.
    """
    lengths = [length_in(words, part) for part in parts]
    depths = [depth_in(words, part) for part in parts]
    length, deepest = 0, 0
    for node, fresh, outward, depth in nodes(words, pattern):
        number = number_for(node, outward)
        length += fresh + (1 if number is None else lengths[number])
        deepest = max(deepest, depth if number is None else depth - 1 + depths[number])
    return (length, deepest)
