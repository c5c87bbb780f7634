"""Random books, and random terms and patterns in their words."""

from formstead.book import is_book
from tests.helpers import CORE, random_leaf


def random_book(row, chosen=()):
    """A random book; what is no form is left out. Of core words its templates have those that are chosen, or any."""
    book = []
    for letter in "abcdefgh":
        words = {**CORE, **{form[0]: form[1] for form in book}}
        names = tuple([row.randrange(3) for _ in range(row.randrange(1, 4))])
        for _ in range(30):
            left = list(range(len(names)))
            form = ("own" + letter, names, random_template(row, words, names, left, 0, row.randrange(2, 6), chosen))
            if is_book((*book, form)):
                book.append(form)
                break
    return tuple(book)


def random_template(row, words, names, left, outward, size, chosen=()):
    """A random template, in which each hole is told once if there is a place for it."""
    if size <= 0 or row.randrange(4) == 0 and size < 4:
        for number in left:
            if names[number] <= outward:
                left.remove(number)
                return ("hole", number) + tuple(row.sample(range(outward), names[number]))
        if outward:
            return ("name", row.randrange(outward))
        return ("number", row.randrange(-3, 4))
    if chosen:
        word = row.choice([*chosen] + [word for word in sorted(words) if word not in CORE])
    else:
        word = row.choice(sorted(words) + ["fn", "again", "test"])
    return (word,) + tuple([
        random_template(row, words, names, left, outward + many, size - row.randrange(1, 3), chosen)
        for many in words[word]
    ])


def random_pattern(row, words, size, free=0, boxes=0, holes=False, outward=0):
    """A random pattern of these words with about so many uses, with names free below FREE and ats below BOXES."""
    if size <= 0:
        return random_leaf(row, outward, free, boxes, holes)
    word = row.choice(sorted(words))
    left, parts = size - 1, []
    for many in words[word]:
        share = row.randrange(left + 1) if len(parts) + 1 < len(words[word]) else left
        parts.append(random_pattern(row, words, share, free, boxes, holes, outward + many))
        left -= share
    return (word,) + tuple(parts)
