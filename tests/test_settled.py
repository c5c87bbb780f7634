"""Points 48 and 49: where forms stand, putting back, folding, overlaps, least patterns, settled books, a parting."""

import unittest

from formstead.book import open_places, opened, opened_at
from formstead.errors import DoesNotStand, InvalidBook, InvalidTerm, TooGreat
from formstead.settled import folded, is_settled, least_pattern, overlaps, parting, put_back, stands
from formstead.terms import is_pattern, length_of
from tests.helpers import BOOK, CORE, LET, TWICE, deep_term, long_term, odd_values, rng
from tests.plain_folding import Folder, laid, part_of, plain_overlaps
from tests.random_books import random_book, random_pattern

ONE, TWO = ("number", 1), ("number", 2)
AFTER = ("after", (0, 0), ("call", ("fn", ("hole", 1)), ("hole", 0)))
ORELSE = ("orelse", (0, 0), ("let", ("hole", 0), ("test", ("name", 0), ("hole", 1), ("name", 0))))
SAYS = ("says", (0,), ("say", ("say", ("hole", 0))))
CROSS = ("cross", (2,), ("again", ("fn", ("hole", 0, 2, 0))))
CHOSEN = [("fn", "pair"), ("fn", "call", "pair"), ("again", "fn", "say"), ("fn", "say", "test"), ("pair", "say"), ()]


def name(k):
    return ("name", k)


def call(body, part=ONE):
    return ("call", ("fn", body), part)


def books(seeds):
    """Random books with the row from which they are made, many of them with overlaps."""
    for seed in range(seeds):
        row = rng(seed)
        chosen = row.choice(CHOSEN)
        book = random_book(row, chosen)[:row.randrange(1, 6)]
        if book:
            words = {**{word: CORE[word] for word in (chosen or CORE)}, **{form[0]: form[1] for form in book}}
            yield row, book, words


def half_opened(row, book, pattern):
    """A pattern with some of its uses of own forms opened."""
    for _ in range(row.randrange(6)):
        places = open_places(book, pattern)
        if places:
            try:
                pattern = opened_at(book, pattern, row.choice(places))
            except TooGreat:
                return pattern
    return pattern


class Standing(unittest.TestCase):
    def told(self, book, pattern, places):
        self.assertEqual(stands(book, pattern), tuple(places))
        for place, form in places:
            behind = put_back(book, pattern, place, form)
            self.assertEqual(opened_at(book, behind, place), pattern)

    def test_at_the_root_and_within(self):
        self.told((LET,), call(name(0)), [((), 0)])
        self.told((LET,), ("say", call(name(0))), [((0,), 0)])
        self.told((LET,), call(call(name(0)), call(ONE)), [((), 0), ((0, 0), 0), ((1,), 0)])
        self.told((LET,), ("pair", call(ONE), call(TWO)), [((0,), 0), ((1,), 0)])
        for pattern in (ONE, name(0), ("hole", 3, 1), ("fn", ONE), ("call", ("again", ONE), ONE),
                        ("call", name(0), ONE), ("call", ("hole", 0), ONE), ("let", ONE, name(0))):
            self.told((LET,), pattern, [])

    def test_templates_as_the_book_tells_them_and_not_opened(self):
        let = ("let", ONE, ("plus", name(0), name(0)))
        self.told((LET, TWICE), let, [((), 1)])
        core = call(("plus", name(0), name(0)))
        self.told((LET, TWICE), core, [((), 0)])
        self.told((LET, TWICE), ("twice", core), [((0,), 0)])
        self.told((LET, TWICE, ORELSE), ("let", TWO, ("test", name(0), let, name(0))), [((), 2), ((1, 1), 1)])

    def test_several_forms_at_one_place(self):
        self.told((LET, AFTER), call(ONE), [((), 0), ((), 1)])
        self.told((AFTER, LET), call(ONE), [((), 0), ((), 1)])
        self.told((LET, AFTER), call(name(0)), [((), 0)])
        self.told((LET, AFTER), call(call(ONE), call(name(0))),
                  [((), 0), ((), 1), ((0, 0), 0), ((0, 0), 1), ((1,), 0)])

    def test_names_and_holes_in_the_parts(self):
        # What stands for after's second part must not tell fn's name, holes neither.
        for part, fits in ((name(0), False), (name(1), True), (("hole", 5), True), (("hole", 5, 0), False),
                           (("hole", 5, 1), True), (("hole", 5, 1, 0), False), (("fn", name(0)), True),
                           (("fn", name(1)), False), (("fn", name(2)), True), (("fn", ("hole", 1, 1)), False),
                           (("fn", ("hole", 1, 0, 2)), True), (("at", 0), True)):
            self.told((AFTER,), call(part), [((), 0)] if fits else [])
            self.told((LET,), call(part), [((), 0)])

    def test_holes_that_see_an_outer_name_alone(self):
        self.told((CROSS,), ("again", ("fn", ("pair", name(2), ("pair", name(0), name(3))))), [((), 0)])
        self.told((CROSS,), ("again", ("fn", ("pair", name(1), name(0)))), [])
        self.told((CROSS,), ("again", ("fn", ("hole", 0, 0, 2))), [((), 0)])
        self.told((CROSS,), ("again", ("fn", ("hole", 0, 0, 1))), [])

    def test_names_of_the_template_itself(self):
        form = ("const", (0,), ("call", ("fn", ("fn", name(1))), ("hole", 0)))
        self.told((form,), call(("fn", name(1))), [((), 0)])
        for other in (name(0), name(2), ONE, ("hole", 0, 1)):
            self.told((form,), call(("fn", other)), [])

    def test_against_a_second_telling(self):
        many = 0
        for row, book, words in books(200):
            for _ in range(3):
                pattern = random_pattern(row, words, row.randrange(1, 9), free=2, boxes=1, holes=row.randrange(2) == 0)
                pattern = half_opened(row, book, pattern)
                if length_of(book, pattern) > 120:
                    continue
                folder, found = Folder(book), stands(book, pattern)
                self.assertEqual(found, folder.stands(pattern))
                self.assertEqual(list(found), sorted(found))
                for place, form in found:
                    behind = put_back(book, pattern, place, form)
                    self.assertEqual(behind, folder.put_back(pattern, place, form))
                    self.assertEqual(opened_at(book, behind, place), pattern)
                many += len(found)
        self.assertGreater(many, 300)


class PuttingBack(unittest.TestCase):
    def test_each(self):
        self.assertEqual(put_back((LET,), call(("plus", name(0), name(1)), name(0)), (), 0),
                         ("let", name(0), ("plus", name(0), name(1))))
        self.assertEqual(put_back((LET, AFTER), call(("plus", name(1), ONE), name(0)), (), 1),
                         ("after", name(0), ("plus", name(0), ONE)))
        self.assertEqual(put_back((CROSS,), ("say", ("again", ("fn", ("pair", name(2), ("pair", name(0), name(4)))))),
                                  (0,), 0), ("say", ("cross", ("pair", name(1), ("pair", name(0), name(3))))))
        self.assertEqual(put_back((LET,), call(("hole", 3, 0, 2), ("hole", 1, 5)), (), 0),
                         ("let", ("hole", 1, 5), ("hole", 3, 0, 2)))
        self.assertEqual(put_back((AFTER,), call(("hole", 3, 1, 2)), (), 0), ("after", ONE, ("hole", 3, 0, 1)))
        self.assertEqual(put_back(form=0, place=(), pattern=call(ONE), book=(LET,)), ("let", ONE, ONE))

    def test_what_does_not_stand(self):
        book, pattern = (LET, AFTER), call(call(name(0)), TWO)
        self.assertEqual(stands(book, pattern), (((), 0), ((), 1), ((0, 0), 0)))
        odd = odd_values() + [-1, 2, 3, True, False, None, "0", (0,)]
        for place in [(0,), (1,), (0, 0, 0), (0, 0, 1), (2,), (-1,), (0, True), (False, 0), [0, 0], [], None, True, 0]:
            for form in (0, 1):
                self.assertRaises(DoesNotStand, put_back, book, pattern, place, form)
        for value in odd:
            self.assertRaises(DoesNotStand, put_back, book, pattern, (), value)
            if value != ():
                self.assertRaises(DoesNotStand, put_back, book, pattern, value, 0)
            self.assertRaises(DoesNotStand, put_back, book, pattern, value, value)
        self.assertRaises(DoesNotStand, put_back, book, pattern, (0, 0), 1)
        self.assertRaises(DoesNotStand, put_back, (), pattern, (), 0)

    def test_what_is_great(self):
        self.assertEqual(length_of((SAYS,), put_back((SAYS,), deep_term(60), (), 0)), 59)
        self.assertEqual(folded((SAYS,), deep_term(60))[0], "says")
        self.assertEqual(folded(BOOK, long_term(1500)), long_term(1500))


class Folding(unittest.TestCase):
    def test_the_first_form_at_the_first_place(self):
        self.assertEqual(folded((LET, AFTER), call(ONE)), ("let", ONE, ONE))
        self.assertEqual(folded((AFTER, LET), call(ONE)), ("after", ONE, ONE))
        self.assertEqual(folded((AFTER, LET), call(name(0))), ("let", ONE, name(0)))
        # Outside in: of three says the outer two are put back, of five the outer four.
        for many, wanted in ((3, ("says", ("say", ONE))), (4, ("says", ("says", ONE))),
                             (5, ("says", ("says", ("say", ONE))))):
            self.assertEqual(folded((SAYS,), deep_term(many + 1)), wanted)

    def test_forms_over_forms_are_put_back_behind_those(self):
        self.assertEqual(folded((LET, TWICE), call(("plus", name(0), name(0)))), ("twice", ONE))
        inner = call(("plus", name(0), name(0)))
        self.assertEqual(folded((LET, TWICE), ("pair", inner, call(("plus", name(0), name(0)), inner))),
                         ("pair", ("twice", ONE), ("twice", ("twice", ONE))))
        # What is put back within may let a form stand around it, ahead of what comes behind.
        outer = ("outer", (0,), ("pair", ("says", ("hole", 0)), ONE))
        self.assertEqual(folded((SAYS, outer), ("pair", deep_term(3), ONE)), ("outer", ONE))
        self.assertEqual(folded((SAYS, outer), ("pair", ("pair", deep_term(3), ONE), deep_term(3))),
                         ("pair", ("outer", ONE), ("says", ONE)))
        swallow = ("swallow", (0, 0), ("pair", ("says", ("hole", 0)), ("say", ("hole", 1))))
        # The pair is put back ahead of the says in its second part.
        self.assertEqual(folded((SAYS, swallow), ("pair", deep_term(3), deep_term(3))),
                         ("swallow", ONE, ("say", ONE)))

    def test_folded_twice_and_opened(self):
        changed = 0
        for row, book, words in books(200):
            for _ in range(3):
                pattern = random_pattern(row, words, row.randrange(1, 9), free=2, boxes=1, holes=row.randrange(2) == 0)
                pattern = half_opened(row, book, pattern)
                if length_of(book, pattern) > 120:
                    continue
                found = folded(book, pattern)
                self.assertEqual(found, Folder(book).folded(pattern))
                self.assertEqual(folded(book, found), found)
                self.assertEqual(stands(book, found), ())
                self.assertTrue(is_pattern(book, found))
                self.assertLessEqual(length_of(book, found), length_of(book, pattern))
                try:
                    self.assertEqual(opened(book, found), opened(book, pattern))
                except TooGreat:
                    self.assertRaises(TooGreat, opened, book, pattern)
                changed += found != pattern
        self.assertGreater(changed, 150)

    def test_settled_books_in_any_order(self):
        many = 0
        for row, book, words in books(300):
            if not is_settled(book):
                continue
            for _ in range(3):
                pattern = half_opened(row, book, random_pattern(row, words, row.randrange(1, 9), free=1, holes=True))
                here, found = pattern, stands(book, pattern)
                if length_of(book, pattern) > 120:
                    continue
                while found:
                    here = put_back(book, here, *row.choice(found))
                    found = stands(book, here)
                self.assertEqual(here, folded(book, pattern))
                many += here != pattern
        self.assertGreater(many, 50)


class Overlaps(unittest.TestCase):
    def told(self, book, wanted):
        """WANTED are the overlaps with their least patterns."""
        self.assertEqual(overlaps(book), tuple(sorted(wanted)))
        self.assertEqual(overlaps(book=book), overlaps(book))
        self.assertIs(is_settled(book), not wanted)
        for (first, place, second), least in wanted.items():
            self.assertEqual(least_pattern(book, first, place, second), least)
            self.assertIn(((), first), stands(book, least))
            self.assertIn((place, second), stands(book, least))

    def test_none(self):
        for book in ((), (LET,), (AFTER,), (LET, TWICE, ORELSE), (CROSS,), BOOK):
            self.told(book, {})

    def test_at_the_root_of_two_forms(self):
        self.told((LET, AFTER), {(0, (), 1): call(("hole", 0), ("hole", 1))})
        self.told((AFTER, LET), {(0, (), 1): call(("hole", 0), ("hole", 1))})
        one, two = ("one", (0,), ("pair", ("hole", 0), ONE)), ("two", (0,), ("pair", TWO, ("hole", 0)))
        self.told((one, two), {(0, (), 1): ("pair", TWO, ONE)})
        self.told((one, two, ("three", (0, 0), ("pair", ("hole", 1), ("hole", 0)))), {
            (0, (), 1): ("pair", TWO, ONE), (0, (), 2): ("pair", ("hole", 0), ONE),
            (1, (), 2): ("pair", TWO, ("hole", 0)),
        })

    def test_of_a_form_with_itself(self):
        self.told((SAYS,), {(0, (0,), 0): ("say", ("say", ("say", ("hole", 0))))})
        nest = ("nest", (0, 0), ("pair", ("pair", ("hole", 0), ONE), ("hole", 1)))
        self.told((nest,), {(0, (0,), 0): ("pair", ("pair", ("pair", ("hole", 0), ONE), ONE), ("hole", 1))})

    def test_within(self):
        outer = ("outer", (0, 0), ("pair", ("say", ("hole", 0)), ("hole", 1)))
        inner = ("inner", (0,), ("say", ("plus", ("hole", 0), ONE)))
        self.told((outer, inner), {(0, (0,), 1): ("pair", ("say", ("plus", ("hole", 0), ONE)), ("hole", 1))})
        self.told((inner, outer), {(1, (0,), 0): ("pair", ("say", ("plus", ("hole", 0), ONE)), ("hole", 1))})

    def test_own_words_overlap_as_they_are_told(self):
        over = ("over", (0,), ("say", ("says", ("hole", 0))))
        more = ("more", (0,), ("pair", ("says", ("say", ("hole", 0))), ONE))
        # says' template is no part of these: what is told there is its word.
        self.told((("aa", (0,), ("say", ("plus", ("hole", 0), ONE))), ("bb", (0,), ("pair", ("aa", ("hole", 0)), ONE)),
                   ("cc", (0,), ("aa", ("box", ("hole", 0))))),
                  {(1, (0,), 2): ("pair", ("aa", ("box", ("hole", 0))), ONE)})
        self.assertEqual(overlaps((SAYS, over, more))[0], (0, (0,), 0))

    def test_none_for_unlike_words_numbers_and_names(self):
        def made(word, inside):
            return (word, (0,), ("call", ("fn", ("fn", inside)), ("hole", 0)))

        for one, other, is_one in ((name(0), name(0), True), (name(0), name(1), False), (ONE, ONE, True),
                                   (ONE, TWO, False), (("say", ONE), ("box", ONE), False), (ONE, name(0), False)):
            book = (made("aa", one), made("bb", other))
            self.told(book, {(0, (), 1): call(("fn", one), ("hole", 0))} if is_one else {})

    def test_names_that_a_hole_does_not_see(self):
        named = ("named", (0,), ("call", ("fn", ("pair", name(0), ONE)), ("hole", 0)))
        self.told((LET, named), {(0, (), 1): call(("pair", name(0), ONE), ("hole", 0))})
        self.told((AFTER, named), {})
        self.told((named, AFTER), {})
        deeper = ("deeper", (0,), ("call", ("fn", ("fn", ("pair", name(0), ONE))), ("hole", 0)))
        self.told((AFTER, deeper), {(0, (), 1): call(("fn", ("pair", name(0), ONE)), ("hole", 0))})
        hidden = ("hidden", (0,), ("call", ("fn", ("fn", ("pair", name(1), ONE))), ("hole", 0)))
        self.told((AFTER, hidden), {})
        self.told((LET, hidden), {(0, (), 1): call(("fn", ("pair", name(1), ONE)), ("hole", 0))})

    def test_holes_that_may_see_fewer_names_than_either_tells(self):
        one = ("one", (2,), ("again", ("fn", ("pair", ONE, ("hole", 0, 2, 0)))))
        two = ("two", (2,), ("again", ("fn", ("pair", ONE, ("hole", 0, 1, 0)))))
        three = ("three", (1,), ("again", ("fn", ("pair", ONE, ("hole", 0, 1)))))
        self.told((one, two, three), {
            (0, (), 1): ("again", ("fn", ("pair", ONE, ("hole", 0, 0)))),
            (0, (), 2): ("again", ("fn", ("pair", ONE, ("hole", 0)))),
            (1, (), 2): ("again", ("fn", ("pair", ONE, ("hole", 0, 1)))),
        })

    def test_what_holes_see_within_and_around(self):
        # The second one stands within the first: it lets see all that is bound around it.
        around = ("around", (2,), ("again", ("fn", ("say", ("hole", 0, 2, 0)))))
        within = ("within", (0,), ("fn", ("say", ("say", ("hole", 0)))))
        self.told((around, within), {(0, (0,), 1): ("again", ("fn", ("say", ("say", ("hole", 0, 2)))))})
        seeing = ("seeing", (1,), ("fn", ("say", ("fn", ("hole", 0, 1)))))
        self.assertEqual(least_pattern((around, seeing), 0, (0,), 1),
                         ("again", ("fn", ("say", ("fn", ("hole", 0, 1, 3))))))
        inward = ("inward", (1,), ("fn", ("say", ("fn", ("hole", 0, 0)))))
        self.assertEqual(least_pattern((around, inward), 0, (0,), 1),
                         ("again", ("fn", ("say", ("fn", ("hole", 0, 0, 3))))))

    def test_holes_beside_it_are_told_in_ascending_order(self):
        beside = ("beside", (2, 0), ("again", ("pair", ("say", ("hole", 1)), ("hole", 0, 1, 0))))
        inner = ("inner", (0,), ("say", ("plus", ("hole", 0), ONE)))
        self.told((beside, inner), {
            (0, (0, 0), 1): ("again", ("pair", ("say", ("plus", ("hole", 0), ONE)), ("hole", 1, 0, 1))),
        })

    def test_against_a_second_telling(self):
        many, within = 0, 0
        for _, book, _ in books(250):
            wanted = plain_overlaps(book)
            self.told(book, wanted)
            many += len(wanted)
            within += len([place for _, place, _ in wanted if place])
        self.assertGreater(many, 200)
        self.assertGreater(within, 100)

    def test_patterns_in_which_both_stand_come_of_the_least_one(self):
        found = 0
        for row, book, words in books(200):
            for _ in range(4):
                pattern = half_opened(row, book, random_pattern(row, words, row.randrange(2, 9), free=1))
                if length_of(book, pattern) > 120:
                    continue
                rows = stands(book, pattern)
                for place, first in rows:
                    for other, second in rows:
                        inside = other[len(place):]
                        if other[:len(place)] != place or (inside == () and first >= second):
                            continue
                        if is_in_template(book[first][2], inside):
                            least = least_pattern(book, first, inside, second)
                            folder = Folder(book)
                            there = part_of(pattern, place)
                            self.assertIsNotNone(laid(folder.named(least), folder.named(there), {}))
                            self.assertIn((first, inside, second), overlaps(book))
                            found += 1
        self.assertGreater(found, 20)

    def test_what_is_none(self):
        book = (LET, AFTER)
        odd = odd_values() + [True, False, None, -1, 2, 3, "0"]
        for value in odd:
            self.assertRaises(DoesNotStand, least_pattern, book, value, (), 1)
            self.assertRaises(DoesNotStand, least_pattern, book, 0, (), value)
            if value != ():
                self.assertRaises(DoesNotStand, least_pattern, book, 0, value, 1)
        for first, place, second in ((1, (), 0), (0, (), 0), (1, (), 1), (0, (0,), 1), (0, (1,), 1), (0, (0, 0), 1),
                                     (0, (0, True), 1), (0, [], 1), (0, (7,), 1)):
            self.assertRaises(DoesNotStand, least_pattern, book, first, place, second)
        self.assertRaises(DoesNotStand, least_pattern, (), 0, (), 1)
        self.assertEqual(overlaps((SAYS,)), ((0, (0,), 0),))
        for first, second in ((0, -1), (-1, 0), (0, 1), (1, 0), (False, 0), (0, False)):
            self.assertRaises(DoesNotStand, least_pattern, (SAYS,), first, (0,), second)
        self.assertEqual(least_pattern(second=1, place=(), first=0, book=book), call(("hole", 0), ("hole", 1)))


def is_in_template(template, place):
    """Whether a use stands at a place of a template."""
    for index in place:
        if template[0] in ("number", "name", "hole"):
            return False
        template = template[1 + index]
    return template[0] not in ("number", "name", "hole")


class Settled(unittest.TestCase):
    def test_partings(self):
        self.assertIsNone(parting(()))
        self.assertIsNone(parting((LET, TWICE, ORELSE)))
        self.assertEqual(parting((LET, AFTER)), (
            call(("hole", 0), ("hole", 1)), ("let", ("hole", 1), ("hole", 0)), ("after", ("hole", 1), ("hole", 0)),
        ))
        self.assertEqual(parting(book=(SAYS,)), (
            ("say", ("say", ("say", ("hole", 0)))), ("says", ("say", ("hole", 0))), ("say", ("says", ("hole", 0))),
        ))

    def test_what_is_told_is_so(self):
        many = 0
        for _, book, _ in books(250):
            found = parting(book)
            self.assertIs(is_settled(book), found is None)
            for first, place, second in overlaps(book):
                least = least_pattern(book, first, place, second)
                one = folded(book, put_back(book, least, (), first))
                other = folded(book, put_back(book, least, place, second))
                self.assertNotEqual(one, other)
            if found is None:
                continue
            pattern, one, other = found
            many += 1
            self.assertNotEqual(one, other)
            for told in (one, other):
                self.assertTrue(is_pattern(book, told))
                self.assertEqual(stands(book, told), ())
                self.assertEqual(opened(book, told), opened(book, pattern))
                self.assertIn(told, all_that_comes(book, pattern))
        self.assertGreater(many, 50)


def all_that_comes(book, pattern):
    """All that comes of a pattern by putting forms back in any order."""
    found, due = {pattern}, [pattern]
    while due:
        here = due.pop()
        for place, form in stands(book, here):
            behind = put_back(book, here, place, form)
            if behind not in found:
                found.add(behind)
                due.append(behind)
    return found


class Errors(unittest.TestCase):
    def test_patterns(self):
        for value in odd_values() + [("let", ONE, ONE), ("pair", ONE), deep_term(61), long_term(1501)]:
            for told in (lambda: stands((), value), lambda: folded((), value), lambda: put_back((), value, (), 0)):
                with self.assertRaises(InvalidTerm) as caught:
                    told()
                self.assertIs(caught.exception.given, value)
        self.assertEqual(stands(pattern=call(ONE), book=(LET,)), (((), 0),))
        self.assertEqual(folded(pattern=call(ONE), book=(LET,)), ("let", ONE, ONE))

    def test_the_book_comes_first(self):
        for value, index in [(value, None) for value in odd_values() if not isinstance(value, tuple)] + [((LET, LET), 1)]:
            for told in (lambda: stands(value, None), lambda: folded(value, None), lambda: put_back(value, None, (), 0),
                         lambda: overlaps(value), lambda: least_pattern(value, 0, (), 1), lambda: is_settled(value),
                         lambda: parting(value)):
                with self.assertRaises(InvalidBook) as caught:
                    told()
                self.assertEqual(caught.exception.index, index)


if __name__ == "__main__":
    unittest.main()
