"""Point 47: texts of core terms, the shortest one, which of like ones, and how many there are."""

import unittest

from formstead.book import opened, opened_source
from formstead.errors import InvalidBook, InvalidProgram, InvalidTerm, TooGreat
from formstead.plain import is_program
from formstead.shortest import shortest, shortest_source, texts
from formstead.terms import is_source, is_term, length_of, names_of
from tests.helpers import BOOK, CORE, LET, TWICE, deep_term, long_term, odd_values, rng
from tests.plain_folding import Folder
from tests.plain_opening import words_of
from tests.plain_steps import random_program
from tests.random_books import random_book, random_pattern
from tests.test_openings import chain, doubling

ONE, TWO = ("number", 1), ("number", 2)
AFTER = ("after", (0, 0), ("call", ("fn", ("hole", 1)), ("hole", 0)))


def name(k):
    return ("name", k)


class Shortest(unittest.TestCase):
    def told(self, book, term, wanted, many):
        self.assertEqual(shortest(book, term), wanted)
        self.assertEqual(texts(book, term), many)
        self.assertEqual(opened(book, wanted), term)

    def test_leaves_and_the_book_without_forms(self):
        for term in (ONE, name(7), ("at", 3), ("fn", name(0)), ("again", ("call", name(1), name(2))), long_term(1500),
                     deep_term(60)):
            self.told((), term, term, 1)

    def test_forms_at_the_root_and_within(self):
        let = ("call", ("fn", ("plus", name(0), name(2))), ONE)
        self.told((LET,), let, ("let", ONE, ("plus", name(0), name(2))), 2)
        self.told((LET,), ("say", let), ("say", ("let", ONE, ("plus", name(0), name(2)))), 2)
        self.told((LET,), ("pair", let, let), ("pair", ("let", ONE, ("plus", name(0), name(2))),
                                               ("let", ONE, ("plus", name(0), name(2)))), 4)
        within = ("call", ("fn", ("call", ("fn", ("pair", name(0), name(1))), name(0))), ONE)
        self.told((LET,), within, ("let", ONE, ("let", name(0), ("pair", name(0), name(1)))), 4)

    def test_forms_over_forms(self):
        twice = ("call", ("fn", ("plus", name(0), name(0))), ONE)
        # The core word, let, twice.
        self.told((LET, TWICE), twice, ("twice", ONE), 3)
        self.told((LET, TWICE), ("fn", ("call", ("fn", ("plus", name(0), name(0))), name(0))),
                  ("fn", ("twice", name(0))), 3)

    def test_which_of_like_ones(self):
        same = [(word, (0,), ("pair", ("hole", 0), ONE)) for word in ("bb", "aa", "cc")]
        # A use has 1 and its parts: as long as two of them told apart, so the first form comes first.
        self.told((same[0], same[1]), ("pair", TWO, ONE), ("bb", TWO), 3)
        self.told((same[1], same[0]), ("pair", TWO, ONE), ("aa", TWO), 3)
        inner = ("pair", ("pair", TWO, ONE), ONE)
        self.told((same[2], same[0]), inner, ("cc", ("cc", TWO)), 9)

    def test_the_core_word_comes_first_of_like_ones(self):
        # As long as what it stands for: 1, a name and the part on either side.
        other = ("made", (1,), ("fn", ("hole", 0, 0)))
        self.told((other,), ("fn", ("fn", name(1))), ("fn", ("fn", name(1))), 4)
        two = ("swap", (2,), ("again", ("hole", 0, 0, 1)))
        self.told((two,), ("again", ("call", name(1), name(0))), ("again", ("call", name(1), name(0))), 2)
        # With a leaf of its own, and two holes that are told two names each: 5 and the parts on either side.
        asked = ("asked", (2, 2), ("again", ("test", ("hole", 0, 1, 0), ("hole", 1, 1, 0), ONE)))
        term = ("again", ("test", name(0), name(1), ONE))
        self.assertEqual(length_of((asked,), ("asked", name(0), name(1))), length_of((), term))
        self.told((asked,), term, term, 2)
        # Outside in: the core word at the root, though the form's part comes ahead in the book within.
        part = ("over", (0, 0), ("pair", ("hole", 0), ("hole", 1)))
        self.told((part, other), ("pair", ("fn", ONE), TWO), ("pair", ("fn", ONE), TWO), 4)

    def test_parts_may_hang_on_the_choice(self):
        # The longer template leaves less in its hole, but costs as much as the shorter one with more.
        short = ("ss", (0,), ("say", ("say", ("hole", 0))))
        tall = ("tt", (0,), ("say", ("say", ("say", ("hole", 0)))))
        term = ONE
        for many in range(11):
            found = shortest((short, tall), term)
            self.assertEqual(opened((short, tall), found), term)
            self.assertEqual(length_of((short, tall), found), 1 + (many + 2) // 3)
            listed = Folder((short, tall)).all_texts(term)
            self.assertEqual(texts((short, tall), term), len(listed))
            self.assertEqual(found, Folder((short, tall)).shortest_of(
                listed, lambda text: length_of((short, tall), text)))
            term = ("say", term)

    def test_holes_that_are_told_no_name(self):
        let = ("call", ("fn", ("plus", name(0), ONE)), ONE)
        self.told((AFTER,), let, let, 1)
        self.told((AFTER,), ("call", ("fn", ("plus", name(1), ONE)), name(0)),
                  ("after", name(0), ("plus", name(0), ONE)), 2)
        self.told((AFTER,), ("call", ("fn", ("fn", name(0))), ONE), ("after", ONE, ("fn", name(0))), 2)
        self.told((AFTER,), ("call", ("fn", ("fn", name(1))), ONE), ("call", ("fn", ("fn", name(1))), ONE), 1)

    def test_holes_that_are_told_two_names_in_either_order(self):
        for ks, made in (((1, 0), ("pair", name(1), ("pair", name(0), name(7)))),
                         ((0, 1), ("pair", name(0), ("pair", name(1), name(7))))):
            form = ("both", (2,), ("say", ("say", ("again", ("hole", 0) + ks))))
            term = ("say", ("say", ("again", ("pair", name(1), ("pair", name(0), name(7))))))
            self.told((form,), term, ("both", made), 2)

    def test_holes_that_see_an_outer_name_alone(self):
        form = ("cross", (2,), ("again", ("fn", ("hole", 0, 2, 0))))
        # again binds 2 and 1, fn 0: of these 1 is not told.
        self.told((form,), ("again", ("fn", ("pair", name(2), ("pair", name(0), name(3))))),
                  ("cross", ("pair", name(1), ("pair", name(0), name(2)))), 2)
        hidden = ("again", ("fn", ("pair", name(1), name(0))))
        self.told((form,), hidden, hidden, 1)

    def test_what_differs_does_not_fit(self):
        form = ("inc", (0,), ("plus", ("hole", 0), ONE))
        self.told((form,), ("plus", TWO, TWO), ("plus", TWO, TWO), 1)
        self.told((form,), ("minus", TWO, ONE), ("minus", TWO, ONE), 1)
        self.told((form,), ("plus", ("plus", TWO, ONE), ONE), ("inc", ("inc", TWO)), 4)
        form = ("same", (0,), ("call", ("fn", ("fn", name(1))), ("hole", 0)))
        self.told((form,), ("call", ("fn", ("fn", name(1))), TWO), ("same", TWO), 2)
        for other in (name(0), name(2), ONE):
            term = ("call", ("fn", ("fn", other)), TWO)
            self.told((form,), term, term, 1)

    def test_forms_whose_opened_template_is_too_great(self):
        book = doubling(8)
        self.assertEqual(texts(book, ("pair", ("say", ONE), ("say", ONE))), 2)
        self.assertEqual(shortest(book, ("pair", ("say", TWO), ("say", ONE))), ("da", TWO))
        self.assertEqual(texts(book[:1], ("pair", ("say", ONE), ("say", TWO))), 1)
        deep = chain(8, lambda word: (word, (word, ("say", ("hole", 0)))))
        self.assertEqual(opened(deep, shortest(deep, deep_term(60))), deep_term(60))

    def test_great_counts(self):
        one = ("aa", (0, 0), ("pair", ("hole", 0), ("hole", 1)))
        two = ("bb", (0, 0), ("pair", ("hole", 0), ("hole", 1)))
        pairs = repr(long_term(1499)).count("pair")
        self.assertGreater(pairs, 400)
        self.assertEqual(texts((one, two), long_term(1499)), 3 ** pairs)
        self.assertEqual(shortest((one, two), long_term(1499)), long_term(1499))

    def test_against_all_texts(self):
        many = 0
        for seed in range(150):
            row = rng(seed)
            chosen = row.choice([("fn", "pair"), ("fn", "call", "pair"), ("again", "fn", "say"), ("fn", "say", "test"),
                                 ("pair", "say"), ()])
            book = random_book(row, chosen)[:row.randrange(1, 6)]
            words = {**{word: CORE[word] for word in (chosen or CORE)}, **{form[0]: form[1] for form in book}}
            for _ in range(3):
                term = random_pattern(row, words, row.randrange(1, 9), free=2, boxes=1)
                try:
                    term = opened(book, term)
                except TooGreat:
                    continue
                if length_of((), term) > 60 or texts(book, term) > 300:
                    continue
                found = Folder(book).all_texts(term)
                self.assertEqual(len(found), texts(book, term))
                self.assertEqual(shortest(book, term), Folder(book).shortest_of(found, lambda text: length_of(book, text)))
                many += len(found) > 1
        self.assertGreater(many, 100)

    def test_against_all_terms_that_open_to_it(self):
        # Not by putting back, but by opening all there are of these words.
        book = (LET, ("inc", (0,), ("plus", ("hole", 0), ONE)), AFTER)
        words = {"fn": (1,), "call": (0, 0), "plus": (0, 0), "let": (0, 1), "inc": (0,), "after": (0, 0)}
        listed = {}

        def terms(length, outward):
            if (length, outward) not in listed:
                found = [ONE] + [name(k) for k in range(outward)] if length == 1 else []
                for word, names in words.items():
                    left = length - 1 - sum(names)
                    splits = [(left,)] if len(names) == 1 else [(one, left - one) for one in range(1, left)]
                    for split in splits:
                        if min(split, default=0) > 0:
                            rows = [terms(part, outward + more) for part, more in zip(split, names)]
                            found += [(word, part) for part in rows[0]] if len(rows) == 1 else [
                                (word, one, two) for one in rows[0] for two in rows[1]]
                listed[length, outward] = found
            return listed[length, outward]

        opening = {}
        for length in range(1, 8):
            for term in terms(length, 0):
                opening.setdefault(opened(book, term), []).append(term)
        checked = 0
        for term, found in opening.items():
            if length_of((), term) <= 7:
                self.assertEqual(texts(book, term), len(found))
                self.assertEqual(shortest(book, term),
                                 Folder(book).shortest_of(set(found), lambda text: length_of(book, text)))
                checked += len(found) > 1
        self.assertGreater(checked, 100)


class Sources(unittest.TestCase):
    def test_with_boxes(self):
        let = ("call", ("fn", ("plus", name(0), name(0))), ONE)
        program = ((("fn", let), ("pair", ("at", 0), ("fn", name(0)))), ("pair", let, ("look", ("at", 1))))
        self.assertTrue(is_program(program))
        self.assertEqual(shortest_source(BOOK, program), (
            (("fn", ("twice", ONE)), ("pair", ("at", 0), ("fn", name(0)))),
            ("pair", ("twice", ONE), ("look", ("at", 1))),
        ))
        self.assertEqual(shortest_source((), program), program)

    def test_random_programs(self):
        for seed in range(200):
            row = rng(seed)
            program = random_program(row)
            if not is_program(program):
                continue
            book = random_book(row)
            found = shortest_source(book, program)
            self.assertTrue(is_source(book, found))
            self.assertEqual(opened_source(book, found), program)
            self.assertEqual(found, (tuple([shortest(book, box) for box in program[0]]), shortest(book, program[1])))
        for program in (((), long_term(1500)), ((), deep_term(60)), ((("number", 3),), ("at", 0))):
            self.assertEqual(opened_source(BOOK, shortest_source(BOOK, program)), program)


class Errors(unittest.TestCase):
    def test_terms(self):
        for value in odd_values() + [("hole", 0), ("let", ONE, ONE), ("twice", ONE), deep_term(61), long_term(1501),
                                     ("pair", ONE)]:
            for call in (shortest, texts):
                with self.assertRaises(InvalidTerm) as caught:
                    call((LET, TWICE), value)
                self.assertIs(caught.exception.given, value)
        self.assertTrue(is_term(BOOK, ("twice", ONE)))
        self.assertIsNone(names_of((), "twice"))

    def test_programs(self):
        for value in odd_values() + [((), ("twice", ONE)), ((("say", ONE),), ONE), ((), name(0))]:
            with self.assertRaises(InvalidProgram) as caught:
                shortest_source(BOOK, value)
            self.assertIs(caught.exception.given, value)

    def test_the_book_comes_first(self):
        for value in odd_values():
            if value != ():
                for call in (shortest, texts, shortest_source):
                    with self.assertRaises(InvalidBook):
                        call(value, None)
        for call in (shortest, texts, shortest_source):
            with self.assertRaises(InvalidBook) as caught:
                call((LET, LET), None)
            self.assertEqual(caught.exception.index, 1)

    def test_by_name(self):
        self.assertEqual([shortest(term=ONE, book=()), texts(term=ONE, book=()),
                          shortest_source(program=((), ONE), book=())], [ONE, 1, ((), ONE)])
        self.assertEqual(words_of(BOOK)["let"], (0, 1))


if __name__ == "__main__":
    unittest.main()
