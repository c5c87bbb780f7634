"""A second telling of openings: with names that are all unlike, so that nothing has to be led."""

import itertools

from tests.helpers import CORE, is_leaf


def words_of(book):
    return {**CORE, **{form[0]: form[1] for form in book}}


def named(words, pattern, seen, fresh):
    """The pattern with unlike names: a use as (WORD, (NAMES, PART), ..), a leaf as it is, its numbers as names."""
    def meaning(k):
        return seen[len(seen) - 1 - k] if k < len(seen) else f"free{k - len(seen)}"

    if pattern[0] in ("number", "at"):
        return pattern
    if pattern[0] == "name":
        return ("name", meaning(pattern[1]))
    if pattern[0] == "hole":
        return pattern[:2] + tuple([meaning(k) for k in pattern[2:]])
    parts = []
    for many, part in zip(words[pattern[0]], pattern[1:]):
        names = [f"n{next(fresh)}" for _ in range(many)]
        parts.append((names, named(words, part, seen + names, fresh)))
    return (pattern[0], *parts)


def renamed(tree, names):
    """A named tree with some of its free names exchanged."""
    if tree[0] in ("number", "at"):
        return tree
    if tree[0] == "name":
        return ("name", names.get(tree[1], tree[1]))
    if tree[0] == "hole":
        return tree[:2] + tuple([names.get(name, name) for name in tree[2:]])
    return (tree[0], *[(told, renamed(part, names)) for told, part in tree[1:]])


def filled(template, parts):
    """A named template with the parts of a named use in its holes."""
    if template[0] == "hole":
        told, part = parts[template[1]]
        return renamed(part, dict(zip(told, template[2:])))
    if is_leaf(template):
        return template
    return (template[0], *[(names, filled(part, parts)) for names, part in template[1:]])


def unnamed(tree, seen):
    """A named tree as a pattern again."""
    def number(name):
        if name in seen:
            return seen[::-1].index(name)
        return int(name[4:]) + len(seen)

    if tree[0] in ("number", "at"):
        return tree
    if tree[0] == "name":
        return ("name", number(tree[1]))
    if tree[0] == "hole":
        return tree[:2] + tuple([number(name) for name in tree[2:]])
    return (tree[0], *[unnamed(part, seen + names) for names, part in tree[1:]])


def opened_in(book, pattern, place):
    """The pattern with the use at a place opened; None if no use of an own form stands there."""
    words, fresh = words_of(book), itertools.count()
    templates = {form[0]: form[2] for form in book}

    def walk(tree, left):
        if left:
            if is_leaf(tree) or left[0] >= len(tree) - 1:
                return None
            names, part = tree[1 + left[0]]
            found = walk(part, left[1:])
            return None if found is None else tree[:1 + left[0]] + ((names, found),) + tree[2 + left[0]:]
        if tree[0] not in templates:
            return None
        return filled(named(words, templates[tree[0]], [], fresh), tree[1:])

    tree = walk(named(words, pattern, [], fresh), place)
    return None if tree is None else unnamed(tree, [])


def fully_opened(book, pattern):
    """The opened pattern."""
    words, fresh = words_of(book), itertools.count()
    templates = {form[0]: form[2] for form in book}

    def walk(tree):
        if is_leaf(tree):
            return tree
        if tree[0] in templates:
            return walk(filled(named(words, templates[tree[0]], [], fresh), tree[1:]))
        return (tree[0], *[(names, walk(part)) for names, part in tree[1:]])

    return unnamed(walk(named(words, pattern, [], fresh)), [])


def places(book, pattern):
    """The places of all uses of own forms."""
    own = {form[0] for form in book}

    def walk(tree, place):
        if is_leaf(tree):
            return []
        here = [place] if tree[0] in own else []
        return here + [found for at, part in enumerate(tree[1:]) for found in walk(part, place + (at,))]

    return walk(pattern, ())
