"""A second telling of forms put back, of overlaps and of texts, with names that are all unlike."""

import itertools

from tests.helpers import is_leaf
from tests.plain_opening import named, unnamed, words_of


def names_in(tree):
    """All names that a named tree tells at leaves, those that it binds itself, too."""
    if is_leaf(tree):
        return set(tree[1:]) if tree[0] == "name" else set(tree[2:]) if tree[0] == "hole" else set()
    return set().union(*[names_in(part) for _, part in tree[1:]])


def laid(template, tree, known):
    """What stands in the holes, by their numbers, as (TOLD, PART); None if the template does not lie there whole."""
    if template[0] == "hole":
        told = [known[name] for name in template[2:]]
        if names_in(tree) & set(known.values()) - set(told):
            return None
        return {template[1]: (told, tree)}
    if is_leaf(template):
        wanted = ("name", known[template[1]]) if template[0] == "name" else template
        return {} if wanted == tree else None
    if template[0] != tree[0]:
        return None
    found = {}
    for (names, part), (others, there) in zip(template[1:], tree[1:]):
        more = laid(part, there, {**known, **dict(zip(names, others))})
        if more is None:
            return None
        found.update(more)
    return found


class Folder:
    def __init__(self, book):
        self.book, self.words = book, words_of(book)

    def use(self, form, tree):
        """The named use of a form in the place of a named tree; None if it does not stand there."""
        word, _, template = self.book[form]
        parts = laid(named(self.words, template, [], map(lambda n: f"t{n}", itertools.count())), tree, {})
        return None if parts is None else (word, *[parts[number] for number in range(len(parts))])

    def named(self, pattern):
        return named(self.words, pattern, [], itertools.count())

    def stands(self, pattern):
        def walk(tree, place):
            here = [(place, form) for form in range(len(self.book)) if self.use(form, tree) is not None]
            inside = [] if is_leaf(tree) else list(enumerate(tree[1:]))
            return here + [found for at, (_, part) in inside for found in walk(part, place + (at,))]

        return tuple(walk(self.named(pattern), ()))

    def put_back(self, pattern, place, form):
        def walk(tree, left):
            if not left:
                return self.use(form, tree)
            names, part = tree[1 + left[0]]
            return tree[:1 + left[0]] + ((names, walk(part, left[1:])),) + tree[2 + left[0]:]

        return unnamed(walk(self.named(pattern), place), [])

    def folded(self, pattern):
        found = self.stands(pattern)
        while found:
            pattern = self.put_back(pattern, *found[0])
            found = self.stands(pattern)
        return pattern

    def all_texts(self, term):
        """All that comes of a core term by putting forms back, in any order: all that opens to it."""
        found, due = {term}, [term]
        while due:
            here = due.pop()
            for place, form in self.stands(here):
                text = self.put_back(here, place, form)
                if text not in found:
                    found.add(text)
                    due.append(text)
        return found

    def shortest_of(self, found, length):
        """The shortest one of texts; of like ones the one with the first possible word at each place."""
        least = min(length(text) for text in found)
        left = [text for text in found if length(text) == least]
        own = [form[0] for form in self.book]
        due = [()]
        while due:
            place = due.pop(0)
            words = {text: part_of(text, place)[0] for text in left}
            if not any(is_leaf((word,)) for word in words.values()):
                ranks = {text: own.index(word) + 1 if word in own else 0 for text, word in words.items()}
                left = [text for text in left if ranks[text] == min(ranks.values())]
                due += [place + (at,) for at in range(len(part_of(left[0], place)) - 1)]
        assert len(left) == 1
        return left[0]


def part_of(pattern, place):
    for at in place:
        pattern = pattern[1 + at]
    return pattern


class Apart(Exception):
    """The two templates cannot lie one upon the other."""


class Overlap:
    """The least pattern of two forms, laid one upon the other with names that are all unlike."""

    def __init__(self, book, first, second):
        self.words = words_of(book)
        fresh = itertools.count()
        self.first = named(self.words, book[first][2], [], map(lambda n: f"r{n}", fresh))
        self.second = named(self.words, book[second][2], [], map(lambda n: f"q{n}", fresh))

    def least(self, place):
        tree = self.whole(self.first, place, [])
        count = itertools.count()

        def told(here, seen):
            if here[0] == "hole":
                order = [name for name in seen[::-1] if name in here[2:]]
                return ("hole", next(count), *order)
            if is_leaf(here):
                return here
            return (here[0], *[(names, told(part, seen + names)) for names, part in here[1:]])

        return unnamed(told(tree, []), [])

    def whole(self, tree, left, seen):
        if not left:
            return self.both(tree, self.second, seen, {})
        names, part = tree[1 + left[0]]
        inside = self.whole(part, left[1:], seen + names)
        return tree[:1 + left[0]] + ((names, inside),) + tree[2 + left[0]:]

    def both(self, one, other, seen, known):
        """SEEN are the first template's binders outward, KNOWN those of the second one as names of the first one."""
        own = list(known.values())
        if one[0] == "hole":
            return self.under(self.again(other, known), seen, set(one[2:]), set(seen), set(own))
        if other[0] == "hole":
            free = (set(seen) - set(own)) | {known[name] for name in other[2:]}
            return self.under(one, seen, free, set(own), set(seen))
        if is_leaf(one) or is_leaf(other):
            if one != self.again(other, known):
                raise Apart()
            return one
        if one[0] != other[0]:
            raise Apart()
        parts = []
        for (names, part), (others, there) in zip(one[1:], other[1:]):
            parts.append((names, self.both(part, there, seen + names, {**known, **dict(zip(others, names))})))
        return (one[0], *parts)

    def again(self, tree, known):
        """A part of the second template with the names of the first one for the binders that they share."""
        if is_leaf(tree):
            at = {"name": 1, "hole": 2}.get(tree[0], len(tree))
            return tree[:at] + tuple([known.get(name, name) for name in tree[at:]])
        return (tree[0], *[(names, self.again(part, known)) for names, part in tree[1:]])

    def under(self, tree, seen, may_see, _, own):
        """What stands in the place of a hole that may see these of the names outward of it; OWN are the binders of
        the template to which it belongs."""
        def walk(here, inside):
            if here[0] == "name" and here[1] in seen and here[1] not in may_see:
                raise Apart()
            if here[0] == "hole":
                bound = own | set(inside)
                both = [name for name in seen + inside if name in here[2:] or name not in bound]
                return here[:2] + tuple([name for name in both if name in inside or name in may_see])
            if is_leaf(here):
                return here
            return (here[0], *[(names, walk(part, inside + names)) for names, part in here[1:]])

        return walk(tree, [])


def plain_overlaps(book):
    """Each overlap with its least pattern."""
    found = {}
    for first, form in enumerate(book):
        due = [((), form[2])]
        while due:
            place, tree = due.pop()
            if is_leaf(tree):
                continue
            due += [(place + (at,), part) for at, part in enumerate(tree[1:])]
            for second in range(len(book)):
                if place or first < second:
                    try:
                        found[first, place, second] = Overlap(book, first, second).least(place)
                    except Apart:
                        pass
    return found
