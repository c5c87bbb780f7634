"""Points 13 and 14: uses of own forms opened, and what this comes to reckoned ahead."""

import inspect
import unittest

from formstead import book as book_module
from formstead.book import (
    open_places, opened, opened_at, opened_depth, opened_length, opened_source, openings_left,
)
from formstead.errors import (
    InvalidBook, InvalidPlace, InvalidSource, InvalidTerm, NoValue, TooGreat,
)
from formstead.terms import boxes_in, depth_of, free_names, is_pattern, is_term, led, length_of, part_at, put_in
from tests.helpers import (
    BOOK, LET, TWICE, deep_term, long_term, most_memory, odd_values, plain_depth, plain_length, random_source,
    random_term, rng,
)
from tests.plain_opening import fully_opened, opened_in, places

ONE, TWO = ("number", 1), ("number", 2)
# Holes told two names in the order in which they are bound and in the other one, beside names of the template that a
# hole is not told; and forms over forms.
CROSS = ("cross", (2,), ("again", ("fn", ("hole", 0, 2, 0))))
TURNED = ("turned", (2,), ("again", ("fn", ("hole", 0, 0, 2))))
DEEP = ("deep", (1, 0), ("let", ("hole", 1), ("cross", ("both", ("hole", 0, 4), ("name", 0)))))
WIDE = (LET, TWICE, ("both", (2, 0), ("again", ("pair", ("hole", 0, 1, 0), ("hole", 1)))), CROSS, TURNED, DEEP)


def name(k):
    return ("name", k)


def doubling(many, word="say"):
    """A book of so many forms, each of which uses the one ahead of it twice or, the first one, a word."""
    forms = []
    for letter in "abcdefgh"[:many]:
        ahead = forms[-1][0] if forms else word
        forms.append(("d" + letter, (0,), ("pair", (ahead, ("hole", 0)), (ahead, ONE))))
    return tuple(forms)


def chain(many, template):
    """A book of so many forms, each of which goes so many times deeper."""
    forms = []
    for letter in "abcdefgh"[:many]:
        forms.append(("c" + letter, (0,), template(forms[-1][0] if forms else "say")))
    return tuple(forms)


def random_wide(row, size, free=0, boxes=0):
    """A random pattern of WIDE: one of BOOK with some words exchanged for those that bind as many names."""
    pattern = random_term(row, size, free, boxes, holes=True)

    def exchanged(tree, outward):
        if tree[0] in ("number", "name", "at", "hole"):
            return tree
        if tree[0] == "again" and row.randrange(2):
            return (row.choice(["cross", "turned"]), exchanged(tree[1], outward))
        if tree[0] == "let" and row.randrange(2):
            # deep's first part binds a name as let's second one does.
            return ("deep", exchanged(tree[2], outward), exchanged(tree[1], outward))
        return (tree[0],) + tuple([exchanged(part, outward) for part in tree[1:]])

    return exchanged(pattern, 0)


class OpeningOne(unittest.TestCase):
    def test_parts_of_let(self):
        use = ("let", name(0), ("pair", name(0), name(1)))
        self.assertEqual(opened_at(BOOK, use, ()), ("call", ("fn", ("pair", name(0), name(1))), name(0)))

    def test_names_of_the_template_that_the_hole_is_not_told(self):
        self.assertEqual(opened_at(BOOK, ("both", name(1), name(3)), ()), ("again", ("pair", name(1), name(5))))
        self.assertEqual(opened_at(BOOK, ("both", name(0), name(0)), ()), ("again", ("pair", name(0), name(2))))
        self.assertEqual(opened_at(BOOK, ("both", name(2), name(0)), ()), ("again", ("pair", name(2), name(2))))

    def test_holes_told_two_names_in_either_order(self):
        part = ("pair", ("pair", name(0), name(1)), name(2))
        # The first name of the part, which is name 1 in it, goes to the first number of the hole.
        self.assertEqual(opened_at(WIDE, ("cross", part), ()),
                         ("again", ("fn", ("pair", ("pair", name(0), name(2)), name(3)))))
        self.assertEqual(opened_at(WIDE, ("turned", part), ()),
                         ("again", ("fn", ("pair", ("pair", name(2), name(0)), name(3)))))

    def test_under_binders_on_both_sides(self):
        pattern = ("fn", ("cross", ("fn", ("pair", name(1), name(3)))))
        self.assertEqual(opened_at(WIDE, pattern, (0,)),
                         ("fn", ("again", ("fn", ("fn", ("pair", name(1), name(4)))))))

    def test_ats_and_holes_in_parts(self):
        use = ("let", ("at", 3), ("hole", 7, 0, 2))
        self.assertEqual(opened_at(BOOK, use, ()), ("call", ("fn", ("hole", 7, 0, 2)), ("at", 3)))
        self.assertEqual(opened_at(WIDE, ("cross", ("hole", 5, 0, 1, 4)), ()),
                         ("again", ("fn", ("hole", 5, 0, 2, 5))))

    def test_by_unlike_names(self):
        for seed in range(400):
            row = rng(seed)
            pattern = random_wide(row, row.randrange(16), row.randrange(4), row.randrange(3))
            self.assertTrue(is_pattern(WIDE, pattern))
            self.assertEqual(open_places(WIDE, pattern), tuple(places(WIDE, pattern)))
            for place in open_places(WIDE, pattern):
                self.assertEqual(opened_at(WIDE, pattern, place), opened_in(WIDE, pattern, place))

    def test_free_names_and_boxes_stay(self):
        for seed in range(200):
            row = rng(seed)
            pattern = random_wide(row, row.randrange(16), 4, 3)
            self.assertEqual(free_names(WIDE, opened(WIDE, pattern)), free_names(WIDE, pattern))
            self.assertEqual(sorted(boxes_in(WIDE, opened(WIDE, pattern))), sorted(boxes_in(WIDE, pattern)))

    def test_led_and_opened_are_opened_and_led(self):
        for seed in range(200):
            row = rng(seed)
            pattern = random_wide(row, row.randrange(16), 4, 2)
            ways, by = tuple([row.randrange(6) for _ in range(row.randrange(4))]), row.randrange(4)
            self.assertEqual(opened(WIDE, led(WIDE, pattern, ways, by)), led((), opened(WIDE, pattern), ways, by))

    def test_put_in_and_opened_is_opened_and_put_in(self):
        for seed in range(200):
            row = rng(seed)
            term = random_term(row, row.randrange(12), 3, 2)
            parts = tuple([random_term(row, row.randrange(5), 2, 2) for _ in range(row.randrange(4))])
            wanted = put_in((), opened(BOOK, term), tuple([opened(BOOK, part) for part in parts]))
            self.assertEqual(opened(BOOK, put_in(BOOK, term, parts)), wanted)

    def test_wrong_places(self):
        pattern = ("pair", ("twice", ONE), ("let", ONE, name(0)))
        self.assertEqual(open_places(BOOK, pattern), ((0,), (1,)))
        wrong = [(), (0, 0), (1, 1), (2,), (-1,), (True,), (False,), [0], [], "0", ("0",), (0, 0, 0)]
        for place in odd_values() + wrong:
            with self.assertRaises(InvalidPlace) as caught:
                opened_at(BOOK, pattern, place)
            self.assertIs(caught.exception.given, place)
        with self.assertRaises(InvalidPlace):
            opened_at((LET,), ("pair", ONE, ONE), ())


class OpeningAll(unittest.TestCase):
    def test_leaves_and_core_words(self):
        for pattern in (ONE, name(4), ("at", 2), ("hole", 3, 1), ("fn", ("pair", name(0), ("hole", 0)))):
            self.assertEqual(opened(WIDE, pattern), pattern)
            self.assertEqual(opened((), pattern), pattern)
            self.assertEqual(open_places(WIDE, pattern), ())
            self.assertEqual(openings_left(WIDE, pattern), 0)

    def test_uses_in_parts_of_uses(self):
        use = ("twice", ("twice", ONE))
        inner = ("call", ("fn", ("plus", name(0), name(0))), ONE)
        self.assertEqual(opened(BOOK, use), ("call", ("fn", ("plus", name(0), name(0))), inner))
        self.assertEqual(open_places(BOOK, use), ((), (0,)))
        self.assertEqual(openings_left(BOOK, use), 4)

    def test_each_opening_takes_one_away_in_any_order(self):
        for seed in range(150):
            row = rng(seed)
            pattern = random_wide(row, row.randrange(10), 2, 2)
            wanted, left = opened(WIDE, pattern), openings_left(WIDE, pattern)
            self.assertEqual(wanted, fully_opened(WIDE, pattern))
            while left:
                self.assertEqual(openings_left(WIDE, pattern), left)
                self.assertEqual((opened_length(WIDE, pattern), opened_depth(WIDE, pattern)),
                                 (plain_length(wanted), plain_depth(wanted)))
                pattern = opened_at(WIDE, pattern, row.choice(open_places(WIDE, pattern)))
                left -= 1
            self.assertEqual(pattern, wanted)
            self.assertEqual(open_places(WIDE, pattern), ())
            self.assertTrue(is_pattern((), pattern))

    def test_places_ascend(self):
        for seed in range(100):
            row = rng(seed)
            found = open_places(WIDE, random_wide(row, 20))
            self.assertEqual(found, tuple(sorted(set(found))))

    def test_reckoned_far_above_the_limits(self):
        book, use = doubling(8), ("dh", ONE)
        length = 1
        for _ in book:
            # A pair, once round the hole and once round a number.
            length = 1 + length + (length + 1)
        self.assertEqual(openings_left(book, use), 255)
        self.assertEqual(opened_length(book, use), length + 1)
        self.assertEqual(opened_depth(book, use), 8 + 2)
        book, use = chain(8, eleven_times), ("ch", ONE)
        with self.assertRaises(TooGreat):
            opened(book, use)
        self.assertEqual(openings_left(book, use), (11 ** 8 - 1) // 10)
        self.assertEqual(opened_length(book, use), 11 ** 8 + 1)
        self.assertEqual(opened_depth(book, use), 11 ** 8 + 1)

    def test_settled_without_building(self):
        book = chain(8, eleven_times)
        self.assertLess(most_memory(lambda: self.assertRaises(TooGreat, opened, book, ("ch", ONE))), 1000000)
        source = ((("fn", ("ch", ONE)),), ("ch", ("ch", ONE)))
        self.assertLess(most_memory(lambda: self.assertRaises(TooGreat, opened_source, book, source)), 1000000)
        self.assertLess(most_memory(lambda: opened_length(book, ("ch", ("ch", ONE)))), 1000000)

    def test_deep_chain(self):
        def template(word):
            return round_hole("say", 3) if word == "say" else ("say", ("say", ("say", (word, ("hole", 0)))))

        book = chain(8, template)
        self.assertEqual(opened_depth(book, ("ch", ONE)), 8 * 3 + 1)
        self.assertEqual(opened_depth(book, ("ch", ("ch", ONE))), 8 * 6 + 1)
        self.assertEqual(opened_length(book, ("ch", ("ch", ONE))), 8 * 6 + 1)
        self.assertEqual(openings_left(book, ("ch", ("ch", ONE))), 16)

    def test_just_as_deep_as_may_be(self):
        book = (("new", (0,), ("say", ("say", ("say", ("hole", 0))))),)
        pattern = deep_term(57)
        for use, deep in ((("new", pattern), 60), (("new", deep_term(58)), 61)):
            self.assertEqual(opened_depth(book, use), deep)
        self.assertEqual(depth_of((), opened(book, ("new", pattern))), 60)
        self.assertEqual(opened_at(book, ("new", pattern), ()), opened(book, ("new", pattern)))
        for use in (("new", deep_term(58)), ("say", ("new", deep_term(57)))):
            with self.assertRaises(TooGreat):
                opened(book, use)
            with self.assertRaises(TooGreat):
                opened_at(book, use, () if use[0] == "new" else (0,))

    def test_depth_of_the_template_beside_the_hole(self):
        book = (("new", (0,), ("pair", ("hole", 0), deep_term(20))),)
        around = ("new", ONE)
        for _ in range(39):
            around = ("say", around)
        self.assertEqual(opened_depth(book, around), 60)
        self.assertEqual(opened_at(book, around, (0,) * 39), opened(book, around))
        with self.assertRaises(TooGreat):
            opened(book, ("say", around))
        with self.assertRaises(TooGreat):
            opened_at(book, ("say", around), (0,) * 40)

    def test_just_as_long_as_may_be(self):
        book = (("new", (0,), ("pair", ("pair", ONE, ONE), ("hole", 0))),)
        for length in (1495, 1496):
            use = ("new", long_term(length))
            self.assertEqual(opened_length(book, use), length + 4)
            self.assertEqual(length_of((), opened(book, use)), length + 4)
            self.assertEqual(opened_at(book, use, ()), opened(book, use))
        use = ("new", long_term(1497))
        with self.assertRaises(TooGreat):
            opened(book, use)
        with self.assertRaises(TooGreat):
            opened_at(book, use, ())
        self.assertEqual(opened_length(book, use), 1501)

    def test_opening_one_where_opening_all_is_too_great(self):
        book = doubling(8)
        self.assertEqual(opened_at(book, ("dh", ONE), ()), ("pair", ("dg", ONE), ("dg", ONE)))


def round_hole(word, many):
    """So many uses of a word with one part around the hole."""
    template = ("hole", 0)
    for _ in range(many):
        template = (word, template)
    return template


def eleven_times(word):
    """A template of eleven uses of a word around the hole."""
    return round_hole(word, 11)


class Sources(unittest.TestCase):
    def test_boxes_and_term_are_opened(self):
        source = ((("number", 4), ("fn", ("twice", name(0))), ("at", 0)), ("let", ("at", 1), ("twice", name(0))))
        wanted = (("number", 4), opened(BOOK, source[0][1]), ("at", 0)), opened(BOOK, source[1])
        self.assertEqual(opened_source(BOOK, source), wanted)
        self.assertEqual(opened_source((), ((), ONE)), ((), ONE))

    def test_a_value_behind_a_use(self):
        book = (("both", (0, 0), ("pair", ("hole", 0), ("hole", 1))), ("late", (1,), ("fn", ("hole", 0, 0))))
        source = ((("both", ONE, ("late", name(0))),), ONE)
        self.assertEqual(opened_source(book, source), ((("pair", ONE, ("fn", name(0))),), ONE))

    def test_the_first_box_that_is_no_value(self):
        for index in range(3):
            boxes = [ONE, ("pair", ONE, ("at", 0)), ("fn", name(0))]
            boxes[index] = ("pair", ONE, ("twice", ONE))
            with self.assertRaises(NoValue) as caught:
                opened_source(BOOK, (tuple(boxes) + (("say", ONE),), ONE))
            self.assertEqual(caught.exception.index, index)
        for box in (("say", ONE), ("box", ONE), ("twice", ONE), ("pair", ("plus", ONE, ONE), ONE)):
            with self.assertRaises(NoValue) as caught:
                opened_source(BOOK, ((box,), ONE))
            self.assertEqual(caught.exception.index, 0)

    def test_too_great_ahead_of_no_value(self):
        book = (("new", (0,), ("pair", ("pair", ONE, ONE), ("hole", 0))),)
        no_value = ("say", ONE)
        for parts in ((no_value, ("new", long_term(1494))), (("new", long_term(1494)), no_value)):
            with self.assertRaises(TooGreat):
                opened_source(book, (parts, ONE))
        found = opened_source(book, ((("fn", ("new", long_term(1493))),), ONE))
        self.assertEqual(length_of((), found[0][0]), 1499)
        with self.assertRaises(TooGreat):
            opened_source(book, ((("fn", ("new", long_term(1494))),), ONE))
        with self.assertRaises(TooGreat):
            opened_source((("new", (0,), ("say", ("say", ("hole", 0)))),), ((("fn", ("new", deep_term(58))),), ONE))
        with self.assertRaises(TooGreat):
            opened_source((("new", (0,), ("say", ("say", ("hole", 0)))),), ((), ("fn", ("new", deep_term(58)))))

    def test_random_sources(self):
        for seed in range(200):
            boxes, term = random_source(rng(seed))
            held = tuple([fully_opened(BOOK, box) for box in boxes])
            try:
                found = opened_source(BOOK, (boxes, term))
            except NoValue as error:
                self.assertNotIn(held[error.index][0], ("number", "at", "fn", "again"))
            else:
                self.assertEqual(found, (held, fully_opened(BOOK, term)))


class Errors(unittest.TestCase):
    def test_in_the_order_of_the_signature(self):
        for call in (opened, open_places, openings_left, opened_length, opened_depth):
            for wrong in (None, [], (1,)):
                with self.assertRaises(InvalidBook):
                    call(wrong, None)
            for value in odd_values():
                with self.assertRaises(InvalidTerm) as caught:
                    call(BOOK, value)
                self.assertIs(caught.exception.given, value)
        with self.assertRaises(InvalidBook):
            opened_at(1, 1, 1)
        with self.assertRaises(InvalidTerm):
            opened_at(BOOK, 1, 1)
        with self.assertRaises(InvalidBook):
            opened_source(1, 1)
        for value in odd_values() + [((), name(0)), ((), ("at", 0)), ((), ("hole", 0)), ((ONE,),)]:
            with self.assertRaises(InvalidSource) as caught:
                opened_source(BOOK, value)
            self.assertIs(caught.exception.given, value)

    def test_by_name(self):
        self.assertEqual(opened(pattern=ONE, book=()), ONE)
        self.assertEqual(opened_at(place=(), pattern=("twice", ONE), book=BOOK), opened_at(BOOK, ("twice", ONE), ()))
        self.assertEqual(opened_source(source=((), ONE), book=()), ((), ONE))
        self.assertEqual(list(inspect.signature(book_module.is_book).parameters), ["value"])
        self.assertTrue(is_term((), opened(BOOK, ("twice", ONE))))
        self.assertEqual(part_at((), opened(BOOK, ("twice", TWO)), (1,)), TWO)


if __name__ == "__main__":
    unittest.main()
