"""The judge of own forms and of books."""

from formstead.errors import InvalidBook
from formstead.kinds import is_tuple_up_to, is_whole_within
from formstead.patterns import fits, is_leaf, length_in, nodes
from formstead.words import core_words, is_own_word

MAX_FORMS = 8
MAX_PARTS = 4
MAX_NAMES = 2
MAX_TEMPLATE = 24


def words_of(book):
    """The words of a book with the numbers of names of their parts; raises InvalidBook for what is no book."""
    if not is_tuple_up_to(book, MAX_FORMS):
        raise InvalidBook(None)
    words = core_words()
    for index, form in enumerate(book):
        if not is_form(words, form):
            raise InvalidBook(index)
        words[form[0]] = form[1]
    return words


def is_form(words, form):
    """Whether a value is an own form behind those to which the words belong."""
    if not isinstance(form, tuple) or len(form) != 3:
        return False
    word, names, template = form
    if not is_own_word(word) or word in words or not are_part_names(names):
        return False
    return fits(words, template, True) and is_template(words, names, template)


def are_part_names(names):
    """Whether a value may tell the numbers of names of the parts of a form."""
    if not is_tuple_up_to(names, MAX_PARTS) or not names:
        return False
    return all([is_whole_within(many, 0, MAX_NAMES) for many in names])


def is_template(words, names, template):
    """Whether a pattern is a template for parts that bind so many names."""
    rows = nodes(words, template)
    if is_leaf(template) or not all([is_told_inside(row[0], row[2]) for row in rows]):
        return False
    if not is_length_of_template(names, length_in(words, template)):
        return False
    return are_holes_of(names, [row[0] for row in rows if row[0][0] == "hole"])


def is_told_inside(node, outward):
    """Whether a node tells nothing from outside of the template: no box and no free name."""
    if node[0] == "at":
        return False
    if node[0] == "name":
        return node[1] < outward
    return node[0] != "hole" or all([k < outward for k in node[2:]])


def is_length_of_template(names, length):
    """Whether a template with holes of so many names may have this length."""
    return length <= MAX_TEMPLATE and 1 + sum(names) <= length - len(names)


def are_holes_of(names, holes):
    """Whether there is one hole for each part, told as many unlike names as this part binds."""
    if sorted([hole[1] for hole in holes]) != list(range(len(names))):
        return False
    return all([len(hole) - 2 == names[hole[1]] == len(set(hole[2:])) for hole in holes])
