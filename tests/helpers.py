"""What several tests need: odd values, own forms, random terms, and a second, plainer telling of the document."""

import random
import tracemalloc

LET = ("let", (0, 1), ("call", ("fn", ("hole", 1, 0)), ("hole", 0)))
TWICE = ("twice", (0,), ("let", ("hole", 0), ("plus", ("name", 0), ("name", 0))))
BOTH = ("both", (2, 0), ("again", ("pair", ("hole", 0, 1, 0), ("hole", 1))))
BOOK = (LET, TWICE, BOTH)

CORE = {
    "fn": (1,), "again": (2,), "call": (0, 0), "pair": (0, 0), "plus": (0, 0), "minus": (0, 0), "times": (0, 0),
    "put": (0, 0), "first": (0,), "second": (0,), "box": (0,), "look": (0,), "say": (0,), "test": (0, 0, 0),
}
WORDS = {**CORE, "let": (0, 1), "twice": (0,), "both": (2, 0)}
LEAVES = ("number", "name", "at", "hole")


def rng(seed):
    """A row of numbers that is the same in each run."""
    return random.Random(seed)


def nested(deep, made=tuple):
    """A value nested so deep."""
    value = made()
    for _ in range(deep - 1):
        value = made([value])
    return value


def odd_values():
    """Values that are neither terms nor texts nor anything else that is asked for."""
    shared = ("pair", ("number", 1), ("number", 1))
    for _ in range(80):
        shared = ("pair", shared, shared)
    cube = ("number", 1)
    for _ in range(58):
        cube = ("test", cube, cube, cube)
    return [
        None, True, False, "", "a", "number", "fn", "(", [], {}, (), set(), b"", b"fn", object(), len, int, Ellipsis,
        [("number", 1)], ["number", 1], {"number": 1}, {1: {2: [3]}}, ("number",), ("number", True), ("number", None),
        ("number", "1"), ("number", 1, 1), ("fn",), ("fn", 1), (("fn",), 1), ([], []), ({}, ()), ((), []), ([], ()),
        ("fn", ["number", 1]), ("pair", ("number", 1), [1]), (None, None), (None, None, None), ("", (), ()),
        10 ** 399, -10 ** 399, ("number", 10 ** 399), ("name", -10 ** 399), ("at", None), ("hole",), ("hole", []),
        ("hole", 0, []), ("hole", 0, True), ("number", "x" * 5000), "x" * 100001, ("fn",) * 20000, (1,) * 20000,
        nested(200), nested(200, list), nested(100), ("fn", nested(198)), shared, cube, tuple([cube] * 5000),
    ]


def is_leaf(term):
    return term[0] in LEAVES


def random_leaf(row, outward, free, boxes, holes):
    """A number, a name, bound or free, an at or a hole."""
    kinds = ["number"]
    if outward + free:
        kinds += ["name"] * 3
    if boxes:
        kinds += ["at"]
    if holes:
        kinds += ["hole"]
    kind = row.choice(kinds)
    if kind == "number":
        return ("number", row.choice([0, 1, -1, 7, 999999999, -999999999]))
    if kind == "at":
        return ("at", row.randrange(boxes))
    if kind == "name":
        return ("name", row.randrange(outward + free))
    many = row.randrange(3) if outward + free else 0
    return ("hole", row.randrange(100)) + tuple([row.randrange(outward + free) for _ in range(many)])


def random_term(row, size, free=0, boxes=0, holes=False, outward=0):
    """A random term, or pattern, with about so many uses, with names free below FREE and ats below BOXES."""
    if size <= 0:
        return random_leaf(row, outward, free, boxes, holes)
    word = row.choice(sorted(WORDS) + ["fn", "again"] * 2)
    names = WORDS[word]
    left, parts = size - 1, []
    for many in names:
        share = row.randrange(left + 1) if len(parts) + 1 < len(names) else left
        parts.append(random_term(row, share, free, boxes, holes, outward + many))
        left -= share
    return (word,) + tuple(parts)


def random_source(row, size=12):
    """A random source of BOOK."""
    many = row.choice([0, 0, 1, 2, 3])
    parts = [random_term(row, row.randrange(size), 0, many) for _ in range(many + 1)]
    return (tuple(parts[:-1]), parts[-1])


def plain_length(term):
    """The length as [8] tells it."""
    if is_leaf(term):
        return 1
    return 1 + sum(WORDS[term[0]]) + sum(plain_length(part) for part in term[1:])


def plain_depth(term):
    """The depth as [8] tells it."""
    return 1 if is_leaf(term) else 1 + max(plain_depth(part) for part in term[1:])


def by_levels(pattern, level=0):
    """The pattern with each bound name told by the level at which it was bound, and each free one as a free one.

    So leading and putting in are told without numbers that move.
    """
    if pattern[0] == "name":
        k = pattern[1]
        if k < level:
            return ("bound", level - 1 - k)
        return ("free", k - level)
    if pattern[0] == "hole":
        return ("hole", pattern[1]) + tuple([by_levels(("name", k), level) for k in pattern[2:]])
    if is_leaf(pattern):
        return pattern
    names = WORDS[pattern[0]]
    return (pattern[0],) + tuple([by_levels(part, level + many) for part, many in zip(pattern[1:], names)])


def with_free(tree, change, level=0):
    """A tree of by_levels with each free name exchanged; what is put in is told by CHANGE(f, level)."""
    if tree[0] == "free":
        return change(tree[1], level)
    if tree[0] == "hole":
        return tree[:2] + tuple([with_free(k, change, level) for k in tree[2:]])
    if tree[0] in ("bound",) or is_leaf(tree):
        return tree
    names = WORDS[tree[0]]
    return (tree[0],) + tuple([with_free(part, change, level + many) for part, many in zip(tree[1:], names)])


def free_of_tree(tree):
    """The free names in a tree of by_levels."""
    if tree[0] == "free":
        return {tree[1]}
    return set().union(*[free_of_tree(part) for part in tree[1:] if isinstance(part, tuple)])


def deep_term(depth):
    """A closed term of a depth."""
    term = ("number", 1)
    for _ in range(depth - 1):
        term = ("say", term)
    return term


def long_term(length, leaf=("number", 1)):
    """A term of a length, of little depth, with one leaf everywhere; closed, if this is."""
    if length < 3:
        return leaf if length == 1 else ("say", leaf)
    left = (length - 1) // 2
    return ("pair", long_term(left, leaf), long_term(length - 1 - left, leaf))


def most_memory(call):
    """How many bytes were held at most at one time while a call went on, whatever it came to."""
    tracemalloc.start()
    try:
        call()
    finally:
        most = tracemalloc.get_traced_memory()[1]
        tracemalloc.stop()
    return most
