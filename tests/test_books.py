"""Point 12, as far as it tells what a book is: each function with a parameter `book` refuses what is none."""

import unittest

from formstead.book import is_book
from formstead.errors import InvalidBook
from formstead.terms import is_term, names_of
from formstead.texts import are_alike, print_source, read_source
from tests.helpers import BOOK, CORE, LET, TWICE, nested, odd_values

ONE = ("number", 1)
HOLE = ("hole", 0)


def wide(length):
    """A template of a length for one part without names: says, as many as are needed, and one pair."""
    template = ("pair", HOLE, ONE)
    for _ in range(length - 3):
        template = ("say", template)
    return template


class Books(unittest.TestCase):
    def refused(self, book, index):
        for call in (lambda: is_term(book, ONE), lambda: names_of(book, "fn"), lambda: read_source(book, "1"),
                     lambda: print_source(book, ((), ONE)), lambda: are_alike(book, "1", "1")):
            with self.assertRaises(InvalidBook) as caught:
                call()
            self.assertEqual(caught.exception.index, index)
        self.assertFalse(is_book(book))

    def taken(self, book):
        self.assertTrue(is_book(book))
        self.assertTrue(is_term(book, ONE))
        self.assertEqual(read_source(book, "1"), ((), ONE))
        for word, names, _ in book:
            self.assertEqual(names_of(book, word), names)

    def form_refused(self, *form):
        """A form is refused at the first place, and behind two good ones."""
        self.refused((form,), 0)
        self.refused((LET, TWICE, form), 2)
        self.refused((LET, TWICE, form, ("say",)), 2)

    def form_taken(self, *form):
        self.taken((form,))
        self.taken((LET, TWICE, form))

    def test_books(self):
        for book in ((), (LET,), (LET, TWICE), BOOK):
            self.taken(book)

    def test_anything_is_asked(self):
        for value in odd_values():
            self.assertEqual(is_book(value), value == ())

    def test_no_tuple(self):
        for book in (None, 0, "", "let", [], [LET], {}, {LET: 1}, {"let": LET}, object()):
            self.refused(book, None)

    def test_eight_and_nine_forms(self):
        forms = tuple([("w" + letter, (0,), ("say", ("say", HOLE))) for letter in "abcdefghi"])
        self.taken(forms[:8])
        self.refused(forms, None)
        self.refused((1,) * 9, None)
        self.refused(forms[:7] + (1,), 7)

    def test_elements_that_are_no_triples(self):
        for form in odd_values() + [list(LET), LET[:2], LET + (1,), (LET,)]:
            self.refused((form,), 0)
            self.refused((LET, form), 1)

    def test_words(self):
        template = ("say", ("say", HOLE))
        for word in ("ab", "abcdefgh", "letter", "fnn", "boxe"):
            self.form_taken(word, (0,), template)
        for word in ("a", "abcdefghi", "", "aB", "Ab", "a1", "x1", "1a", "a b", " ab", "ab\n", "a-b", "\xe4\xf6",
                     "ab\xe4", None, 5,
                     ("ab",), ["a", "b"], b"ab", True):
            self.form_refused(word, (0,), template)
        for word in list(CORE) + ["number", "name", "at", "hole", "boxes", "form"]:
            self.form_refused(word, (0,), template)

    def test_words_used_ahead(self):
        self.refused((LET, LET), 1)
        self.refused((LET, TWICE, ("let", (0,), ("say", ("say", HOLE)))), 2)
        self.taken((("let", (0,), ("say", ("say", HOLE))),))

    def test_names(self):
        def template(many):
            parts = ("hole", 0)
            for number in range(1, many):
                parts = ("pair", ("hole", number), parts)
            return ("say", ("say", ("say", ("say", parts))))

        for many in (1, 2, 3, 4):
            self.form_taken("new", (0,) * many, template(many))
        self.form_refused("new", (), ("say", ONE))
        self.form_refused("new", (0,) * 5, template(5))
        for names in ([0], (3,), (-1,), (True,), (False,), (None,), ("0",), "0", None, 1, {}, ((0,),)):
            self.form_refused("new", names, template(1))
        self.form_refused("new", (0, 0), template(1))
        self.form_refused("new", (0,), template(2))

    def test_three_names_of_one_part(self):
        self.form_taken("new", (2,), ("again", ("fn", ("hole", 0, 0, 1))))
        self.form_refused("new", (3,), ("again", ("fn", ("hole", 0, 0, 1, 2))))

    def test_template_that_is_no_use(self):
        for template in (HOLE, ONE, ("name", 0), ("at", 0), ("hole", 0, 0)):
            self.form_refused("new", (0,), template)

    def test_template_that_is_no_pattern(self):
        wrong = [
            ["say", HOLE], ("say", ["hole", 0]), ("say", ("say", ("hole", False))), ("let", HOLE),
            ("say", ("say", HOLE), ONE), ("new", HOLE), ("say", ("new", HOLE)),
        ]
        for template in odd_values() + wrong:
            self.form_refused("new", (0,), template)

    def test_template_with_ats_and_free_names(self):
        self.form_refused("new", (0,), ("pair", HOLE, ("at", 0)))
        self.form_refused("new", (0,), ("pair", HOLE, ("name", 0)))
        self.form_refused("new", (0,), ("fn", ("pair", HOLE, ("name", 1))))
        self.form_refused("new", (0,), ("pair", ("fn", HOLE), ("name", 0)))
        self.form_taken("new", (0,), ("fn", ("pair", HOLE, ("name", 0))))
        self.form_taken("new", (0,), ("again", ("pair", HOLE, ("name", 1))))
        self.form_refused("new", (0,), ("again", ("pair", HOLE, ("name", 2))))

    def test_words_of_forms_behind_and_of_its_own(self):
        self.refused((TWICE, LET), 0)
        self.refused((("new", (0,), ("say", ("new", HOLE))),), 0)
        self.refused((LET, ("new", (0,), ("say", ("twice", HOLE))), TWICE), 1)
        self.taken((LET, TWICE, ("new", (0,), ("say", ("twice", HOLE)))))

    def test_holes_each_just_once(self):
        self.form_refused("new", (0,), ("say", ONE))
        self.form_refused("new", (0,), ("test", HOLE, HOLE, ONE))
        self.form_refused("new", (0, 0), ("test", HOLE, HOLE, ONE))
        self.form_refused("new", (0, 0), ("test", HOLE, ("hole", 2), ONE))
        self.form_refused("new", (0, 0), ("test", ("hole", 1), ("hole", 1), ("hole", 0)))
        self.form_refused("new", (0,), ("test", ("hole", 1), ONE, ONE))
        self.form_refused("new", (0,), ("test", ("hole", 99), ONE, ONE))
        self.form_taken("new", (0, 0), ("test", ("hole", 1), HOLE, ONE))

    def test_names_of_holes(self):
        def pair(*ks):
            return ("again", ("pair", ("hole", 0) + ks, ("fn", ("name", 0))))

        self.form_taken("new", (0,), pair())
        self.form_taken("new", (1,), pair(0))
        self.form_taken("new", (1,), pair(1))
        self.form_taken("new", (2,), pair(0, 1))
        self.form_taken("new", (2,), pair(1, 0))
        for names, ks in (((0,), (0,)), ((1,), ()), ((1,), (0, 1)), ((2,), (0,)), ((2,), (0, 1, 1))):
            self.form_refused("new", names, pair(*ks))
        self.form_refused("new", (2,), pair(0, 0))
        self.form_refused("new", (1,), pair(2))
        self.form_refused("new", (2,), pair(0, 2))
        self.form_refused("new", (1,), pair(10 ** 399))
        self.form_refused("new", (1,), ("pair", ("hole", 0, 0), ("fn", ("name", 0))))
        self.form_refused("new", (1, 0), ("pair", ("hole", 0, 0), ("fn", ("hole", 1))))
        self.form_taken("new", (0, 1), ("pair", ("hole", 0), ("fn", ("hole", 1, 0))))

    def test_names_are_told_by_the_index_of_the_part(self):
        self.form_taken("new", (0, 1), ("pair", ("fn", ("hole", 1, 0)), ("hole", 0)))
        self.form_refused("new", (1, 0), ("pair", ("fn", ("hole", 1, 0)), ("hole", 0)))

    def test_words_ahead_bind_in_templates(self):
        self.taken((LET, ("new", (1,), ("let", ONE, ("hole", 0, 0)))))
        self.refused((LET, ("new", (1,), ("let", ("hole", 0, 0), ONE))), 1)

    def test_greatest_length(self):
        for length in (3, 23, 24):
            self.form_taken("new", (0,), wide(length))
        for length in (25, 26, 70):
            self.form_refused("new", (0,), wide(length))

    def test_least_length(self):
        self.form_taken("new", (0,), ("say", HOLE))
        self.form_taken("new", (0, 0), ("pair", HOLE, ("hole", 1)))
        self.form_refused("new", (2,), ("again", ("hole", 0, 0)))
        self.form_taken("new", (2,), ("again", ("hole", 0, 0, 1)))
        self.form_taken("new", (1,), ("fn", ("hole", 0, 0)))
        two = ("test", ("hole", 0, 0, 1), ("hole", 1, 0, 1), ("number", 2))
        self.form_taken("new", (2, 2), ("again", two))
        self.form_refused("new", (2, 2), ("again", ("pair", ("hole", 0, 0, 1), ("hole", 1, 0, 1))))
        self.form_taken("new", (2, 2), ("again", ("say", ("pair", ("hole", 0, 0, 1), ("hole", 1, 0, 1)))))
        self.form_refused("new", (2, 2, 2), ("again", ("test",) + tuple([("hole", i, 0, 1) for i in range(3)])))

    def test_the_first_wrong_form_is_told(self):
        wrong = ("new", (0,), ONE)
        self.refused((wrong, wrong), 0)
        self.refused((LET, wrong, wrong), 1)
        self.refused((LET, wrong, TWICE), 1)
        self.refused((nested(200), LET), 0)


if __name__ == "__main__":
    unittest.main()
