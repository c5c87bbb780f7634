"""Points 9, 10 and 11: leading, putting in, replacing, TooGreat; and the order of errors in formstead.terms."""

import inspect
import unittest

from formstead import terms
from formstead.errors import (
    FormError, InvalidBook, InvalidNumber, InvalidParts, InvalidPlace, InvalidTerm, InvalidWays, TooGreat,
)
from formstead.terms import depth_of, is_term, led, length_of, part_at, put_in, replaced
from tests.helpers import (
    BOOK, WORDS, by_levels, deep_term, long_term, most_memory, nested, odd_values, plain_depth, random_term, rng,
    with_free,
)

ONE = ("number", 1)


def name(k):
    return ("name", k)


class Leading(unittest.TestCase):
    def test_free_names_go_their_ways(self):
        self.assertEqual(led((), name(0), (5,), 9), name(5))
        self.assertEqual(led((), name(1), (5,), 9), name(9))
        self.assertEqual(led((), name(4), (5, 6), 0), name(2))
        self.assertEqual(led((), ("fn", ("pair", name(0), name(1))), (5,), 9), ("fn", ("pair", name(0), name(6))))
        self.assertEqual(led((), ("again", ("pair", name(1), name(3))), (5,), 9),
                         ("again", ("pair", name(1), name(11))))
        self.assertEqual(led((), ("fn", ("again", name(3))), (5,), 9), ("fn", ("again", name(8))))
        self.assertEqual(led(BOOK, ("let", name(0), name(0)), (5,), 9), ("let", name(5), name(0)))
        self.assertEqual(led(BOOK, ("both", name(2), name(2)), (5,), 9), ("both", name(7), name(10)))

    def test_no_ways_raise(self):
        self.assertEqual(led((), ("fn", ("pair", name(0), name(3))), (), 0), ("fn", ("pair", name(0), name(3))))
        self.assertEqual(led((), ("fn", ("pair", name(0), name(3))), (), 4), ("fn", ("pair", name(0), name(7))))

    def test_great_ways_and_by(self):
        great = 10 ** 399
        self.assertEqual(led((), ("fn", name(1)), (great,), 0), ("fn", name(great + 1)))
        self.assertEqual(led((), ("fn", name(1)), (), great), ("fn", name(great + 1)))
        self.assertEqual(led((), name(8), tuple(range(10, 18)), great), name(great))
        self.assertEqual(led((), name(7), tuple(range(10, 18)), great), name(17))

    def test_holes_are_led_as_names_are(self):
        self.assertEqual(led((), ("hole", 3, 0, 1, 2), (5, 6), 7), ("hole", 3, 5, 6, 7))
        self.assertEqual(led((), ("fn", ("hole", 0, 0, 1, 2, 1)), (5,), 7), ("fn", ("hole", 0, 0, 6, 8, 6)))
        self.assertEqual(led((), ("hole", 3), (5, 6), 7), ("hole", 3))

    def test_all_else_stays(self):
        pattern = ("test", ("at", 0), ("number", 0), ("fn", ("pair", name(0), ("hole", 0, 0))))
        self.assertEqual(led((), pattern, (4,), 3), pattern)

    def test_by_levels(self):
        for seed in range(300):
            row = rng(seed)
            pattern = random_term(row, row.randrange(20), 5, 2, holes=True)
            ways = tuple([row.randrange(9) for _ in range(row.randrange(5))])
            by = row.randrange(6)

            def change(free, level):
                return ("free", ways[free] if free < len(ways) else free - len(ways) + by)

            wanted = with_free(by_levels(pattern), change)
            self.assertEqual(by_levels(led(BOOK, pattern, ways, by)), wanted)

    def test_leading_twice_is_leading_once(self):
        for seed in range(300):
            row = rng(seed)
            pattern = random_term(row, row.randrange(16), 5, 2, holes=True)
            first = tuple([row.randrange(6) for _ in range(row.randrange(4))])
            second = tuple([row.randrange(6) for _ in range(row.randrange(4))])
            by, then_by = row.randrange(4), row.randrange(4)

            def onward(free):
                return second[free] if free < len(second) else free - len(second) + then_by

            once = [onward(way) for way in first]
            while len(once) - len(first) + by < len(second):
                once.append(onward(len(once) - len(first) + by))
            last = onward(len(once) - len(first) + by)
            twice = led(BOOK, led(BOOK, pattern, first, by), second, then_by)
            self.assertEqual(twice, led(BOOK, pattern, tuple(once), last))

    def test_wrong_ways(self):
        for ways in odd_values():
            if ways == ():
                continue
            with self.assertRaises(InvalidWays) as caught:
                led((), ONE, ways, 0)
            wanted = 0 if isinstance(ways, tuple) and len(ways) <= 8 else None
            self.assertEqual(caught.exception.index, wanted)

    def test_index_of_the_first_wrong_way(self):
        for ways, index in (((0, -1, -1), 1), ((0, 1, True), 2), ((1,) * 7 + ("1",), 7), ((1,) * 9, None), ([1], None),
                            ((None, -1), 0), ((0, (0,)), 1)):
            with self.assertRaises(InvalidWays) as caught:
                led((), ONE, ways, 0)
            self.assertEqual(caught.exception.index, index)
        self.assertEqual(led((), ONE, (1,) * 8, 0), ONE)

    def test_wrong_by(self):
        for by in odd_values():
            if by == 10 ** 399:
                continue
            with self.assertRaises(InvalidNumber) as caught:
                led((), ONE, (), by)
            self.assertIs(caught.exception.given, by)
        self.assertRaises(InvalidNumber, led, (), ONE, (), -1)


class PuttingIn(unittest.TestCase):
    def test_under_binders(self):
        self.assertEqual(put_in((), name(0), (ONE,)), ONE)
        self.assertEqual(put_in((), name(3), (ONE,)), name(2))
        self.assertEqual(put_in((), ("fn", name(1)), (name(4),)), ("fn", name(5)))
        self.assertEqual(put_in((), ("fn", name(0)), (name(4),)), ("fn", name(0)))
        self.assertEqual(put_in((), ("again", ("pair", name(1), name(2))), (name(4),)),
                         ("again", ("pair", name(1), name(6))))
        self.assertEqual(put_in((), ("fn", ("fn", ("pair", name(2), name(3)))), (name(0),)),
                         ("fn", ("fn", ("pair", name(2), name(2)))))
        self.assertEqual(put_in((), ("fn", name(1)), (("fn", ("pair", name(0), name(1))),)),
                         ("fn", ("fn", ("pair", name(0), name(2)))))

    def test_several_parts(self):
        term = ("test", name(0), name(1), name(2))
        self.assertEqual(put_in((), term, (name(7), name(8))), ("test", name(7), name(8), name(0)))

    def test_no_term_changes_nothing(self):
        for seed in range(50):
            term = random_term(rng(seed), 9, 4, 2)
            self.assertEqual(put_in(BOOK, term, ()), term)

    def test_closed_terms_are_put_in_as_they_are(self):
        closed = ("fn", ("pair", name(0), ("again", ("call", name(1), name(2)))))
        for seed in range(100):
            term = random_term(rng(seed), 12, 1)
            put = put_in(BOOK, term, (closed,))
            self.assertEqual(repr(put).count(repr(closed)), len(self.places_of_free(by_levels(term))))

    def places_of_free(self, tree):
        if tree[0] == "free":
            return [tree]
        return sum([self.places_of_free(part) for part in tree[1:] if isinstance(part, tuple)], [])

    def test_by_levels(self):
        for seed in range(300):
            row = rng(seed)
            term = random_term(row, row.randrange(14), 5, 2)
            parts = tuple([random_term(row, row.randrange(6), 4, 2) for _ in range(row.randrange(5))])

            def change(free, level):
                return by_levels_raised(parts[free], level) if free < len(parts) else ("free", free - len(parts))

            self.assertEqual(by_levels(put_in(BOOK, term, parts)), with_free(by_levels(term), change))

    def test_putting_in_twice_is_putting_in_once(self):
        for seed in range(200):
            row = rng(seed)
            term = random_term(row, row.randrange(10), 6)
            first = tuple([random_term(row, row.randrange(4), 4) for _ in range(row.randrange(4))])
            second = tuple([random_term(row, row.randrange(4), 4) for _ in range(row.randrange(4))])
            twice = put_in(BOOK, put_in(BOOK, term, first), second)
            inside = tuple([put_in(BOOK, part, second) for part in first])
            self.assertEqual(twice, put_in(BOOK, term, inside + second))

    def test_length_just_at_the_greatest(self):
        term = ("pair", name(0), name(0))
        self.assertEqual(length_of((), put_in((), term, (long_term(749),))), 1499)
        self.assertRaises(TooGreat, put_in, (), term, (long_term(750),))
        term = ("test", name(0), name(0), ONE)
        self.assertEqual(length_of((), put_in((), term, (long_term(749),))), 1500)
        self.assertRaises(TooGreat, put_in, (), term, (long_term(750),))
        term = ("fn", ("pair", name(1), ("fn", name(2))))
        self.assertEqual(length_of((), put_in((), term, (long_term(747),))), 1499)
        self.assertRaises(TooGreat, put_in, (), term, (long_term(748),))

    def test_depth_just_at_the_greatest(self):
        term = ("pair", ("say", name(0)), ONE)
        self.assertEqual(depth_of((), put_in((), term, (deep_term(58),))), 60)
        self.assertRaises(TooGreat, put_in, (), term, (deep_term(59),))
        self.assertEqual(put_in((), name(0), (deep_term(60),)), deep_term(60))

    def test_what_is_not_put_in_does_not_count(self):
        self.assertEqual(put_in((), name(1), (long_term(1500), ONE)), ONE)
        self.assertEqual(put_in((), ("fn", name(0)), (deep_term(60),)), ("fn", name(0)))

    def test_too_great_is_settled_without_building(self):
        # Seven hundred times the part: what would be built has tens of millions of bytes.
        term, part = long_term(1399, name(0)), long_term(1400)
        self.assertLess(most_memory(lambda: self.assertRaises(TooGreat, put_in, (), term, (part,))), 5000000)

    def test_sizes_are_those_of_what_is_built(self):
        many = {True: 0, False: 0}
        for seed in range(200):
            row = rng(seed)
            term = random_term(row, row.randrange(20, 100), 3)
            parts = tuple([random_term(row, row.randrange(150), 2) for _ in range(3)])
            tree = with_free(by_levels(term), lambda free, level: by_levels(parts[free]) if free < 3 else ONE)
            fits = tree_length(tree) <= 1500 and tree_depth(tree) <= 60
            many[fits] += 1
            if fits:
                put = put_in(BOOK, term, parts)
                self.assertTrue(is_term(BOOK, put))
                self.assertEqual((length_of(BOOK, put), depth_of(BOOK, put)), (tree_length(tree), tree_depth(tree)))
            else:
                self.assertRaises(TooGreat, put_in, BOOK, term, parts)
        self.assertGreater(min(many.values()), 20)

    def test_wrong_parts(self):
        for parts, index in (([], None), ((ONE,) * 9, None), (None, None), ("", None), ((ONE, ("hole", 0)), 1),
                             ((["number", 1],), 0),
                             ((ONE, ONE, ("let", ONE, ONE), None), 2), ((deep_term(61),), 0), ((long_term(1501),), 0),
                             ((ONE,) * 7 + (("number", True),), 7)):
            with self.assertRaises(InvalidParts) as caught:
                put_in((), ONE, parts)
            self.assertEqual(caught.exception.index, index)
        self.assertEqual(put_in((), name(7), (ONE,) * 8), ONE)
        for value in odd_values():
            with self.assertRaises(InvalidParts) as caught:
                put_in((), ONE, (ONE, value))
            self.assertEqual(caught.exception.index, 1)

    def test_a_hole_is_no_part_of_a_term(self):
        for term in (("hole", 0), ("fn", ("hole", 0, 0))):
            with self.assertRaises(InvalidTerm) as caught:
                put_in((), term, ())
            self.assertIs(caught.exception.given, term)


def by_levels_raised(term, level):
    """A term that is put in at a level, its bound names told by the levels from there on."""
    def shift(tree):
        if tree[0] == "bound":
            return ("bound", tree[1] + level)
        return tuple([shift(part) if isinstance(part, tuple) else part for part in tree])
    return shift(by_levels(term))


def parts_of(tree):
    return [part for part in tree[1:] if isinstance(part, tuple)]


def tree_length(tree):
    return 1 + sum(WORDS.get(tree[0], ())) + sum([tree_length(part) for part in parts_of(tree)])


def tree_depth(tree):
    return 1 + max([tree_depth(part) for part in parts_of(tree)], default=0)


class Replacing(unittest.TestCase):
    def test_parts_are_replaced_as_they_are(self):
        pattern = ("fn", ("test", name(1), ("at", 0), ("hole", 2)))
        self.assertEqual(replaced((), pattern, (), ("hole", 5, 7)), ("hole", 5, 7))
        self.assertEqual(replaced((), pattern, (0, 1), name(9)), ("fn", ("test", name(1), name(9), ("hole", 2))))
        self.assertEqual(replaced((), pattern, (0,), ("say", name(3))), ("fn", ("say", name(3))))
        self.assertEqual(replaced((), pattern, (0, 2), pattern), ("fn", ("test", name(1), ("at", 0), pattern)))

    def test_what_was_there_put_there_again(self):
        for seed in range(60):
            row = rng(seed)
            pattern, place = random_term(row, 12, 2, 2, holes=True), ()
            while isinstance(pattern[1], tuple) and row.randrange(4):
                here = part_at(BOOK, pattern, place)
                if not isinstance(here[1], tuple):
                    break
                place += (row.randrange(len(here) - 1),)
            self.assertEqual(replaced(BOOK, pattern, place, part_at(BOOK, pattern, place)), pattern)
            self.assertEqual(part_at(BOOK, replaced(BOOK, pattern, place, ("hole", 3, 8)), place), ("hole", 3, 8))

    def test_length_just_at_the_greatest(self):
        pattern = ("pair", ("say", ONE), long_term(700))
        self.assertEqual(length_of((), replaced((), pattern, (0,), long_term(799))), 1500)
        self.assertRaises(TooGreat, replaced, (), pattern, (0,), long_term(800))
        self.assertEqual(length_of((), replaced((), pattern, (0, 0), long_term(798))), 1500)
        self.assertRaises(TooGreat, replaced, (), pattern, (0, 0), long_term(799))
        self.assertEqual(replaced((), pattern, (), long_term(1500)), long_term(1500))

    def test_depth_just_at_the_greatest(self):
        pattern = ("pair", ("say", ("say", ONE)), deep_term(10))
        self.assertEqual(depth_of((), replaced((), pattern, (0, 0), deep_term(58))), 60)
        self.assertRaises(TooGreat, replaced, (), pattern, (0, 0), deep_term(59))
        self.assertEqual(depth_of((), replaced((), pattern, (1,), ONE)), 4)
        self.assertEqual(depth_of((), replaced((), pattern, (0,), ONE)), 11)
        self.assertEqual(replaced((), deep_term(60), (0,) * 59, ("at", 1))[0], "say")
        self.assertRaises(TooGreat, replaced, (), deep_term(60), (0,) * 59, ("say", ONE))
        self.assertEqual(replaced((), deep_term(60), (), deep_term(60)), deep_term(60))

    def test_wrong_part(self):
        for part in odd_values() + [("let", ONE, ONE), deep_term(61)]:
            with self.assertRaises(InvalidTerm) as caught:
                replaced((), ONE, (), part)
            self.assertIs(caught.exception.given, part)


class OrderOfErrors(unittest.TestCase):
    def told(self, function, *arguments):
        with self.assertRaises(FormError) as caught:
            function(*arguments)
        return type(caught.exception)

    def test_the_first_wrong_argument_is_told(self):
        fat = ("test", name(0), name(0), name(0))
        self.assertIs(self.told(led, [], 1, [], -1), InvalidBook)
        self.assertIs(self.told(led, (), 1, [], -1), InvalidTerm)
        self.assertIs(self.told(led, (), ONE, [], -1), InvalidWays)
        self.assertIs(self.told(led, (), ONE, (), -1), InvalidNumber)
        self.assertIs(self.told(put_in, [], 1, []), InvalidBook)
        self.assertIs(self.told(put_in, (), 1, []), InvalidTerm)
        self.assertIs(self.told(put_in, (), fat, (long_term(1500), 1)), InvalidParts)
        self.assertIs(self.told(put_in, (), fat, (long_term(1500),)), TooGreat)
        self.assertIs(self.told(part_at, [], 1, 1), InvalidBook)
        self.assertIs(self.told(part_at, (), 1, 1), InvalidTerm)
        self.assertIs(self.told(part_at, (), ONE, 1), InvalidPlace)
        self.assertIs(self.told(replaced, [], 1, 1, 1), InvalidBook)
        self.assertIs(self.told(replaced, (), 1, 1, 1), InvalidTerm)
        self.assertIs(self.told(replaced, (), ONE, 1, 1), InvalidPlace)
        self.assertIs(self.told(replaced, (), long_term(1500), (0,), 1), InvalidTerm)
        self.assertIs(self.told(replaced, (), long_term(1500), (0,), long_term(1500)), TooGreat)

    def test_each_function_refuses_what_is_no_book_first(self):
        for word, function in vars(terms).items():
            if not inspect.isfunction(function) or function.__module__ != "formstead.terms":
                continue
            rest = len(inspect.signature(function).parameters) - 1
            for book, index in (([], None), (None, None), (((),), 0), (BOOK + (1,), 3), (nested(200), 0)):
                with self.subTest(word=word), self.assertRaises(InvalidBook) as caught:
                    function(book, *[[]] * rest)
                self.assertEqual(caught.exception.index, index)

    def test_by_name(self):
        self.assertEqual(led(by=1, ways=(), pattern=name(0), book=()), name(1))
        self.assertEqual(put_in(parts=(ONE,), term=name(0), book=()), ONE)
        self.assertEqual(replaced(part=ONE, place=(), pattern=name(0), book=()), ONE)
        self.assertRaises(InvalidNumber, led, by=-1, ways=(), pattern=name(0), book=())

    def test_equal_calls_return_equal_results(self):
        pattern = random_term(rng(5), 20, 3, 2, holes=True)
        self.assertEqual(led(BOOK, pattern, (3, 2), 1), led(BOOK, pattern, (3, 2), 1))
        self.assertEqual(plain_depth(pattern), depth_of(BOOK, pattern))


if __name__ == "__main__":
    unittest.main()
