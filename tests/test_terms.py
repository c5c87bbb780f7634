"""Points 3, 5, 6, 7, 8 and 11: what is a term, a pattern, a source, a place, and what is told of them."""

import copy
import unittest

from formstead.errors import InvalidPlace, InvalidTerm
from formstead.terms import (
    boxes_in, depth_of, free_names, is_pattern, is_source, is_term, length_of, names_of, part_at,
)
from tests.helpers import (
    BOOK, CORE, LET, WORDS, by_levels, deep_term, free_of_tree, is_leaf, long_term, nested, odd_values, plain_depth,
    plain_length, random_term, rng,
)

ONE = ("number", 1)


class Words(unittest.TestCase):
    def test_core_words(self):
        for word, names in CORE.items():
            self.assertEqual(names_of((), word), names)
            self.assertTrue(is_term((), (word,) + (ONE,) * len(names)))

    def test_parts_too_few_and_too_many(self):
        for word, names in CORE.items():
            self.assertFalse(is_term((), (word,) + (ONE,) * (len(names) - 1)))
            self.assertFalse(is_term((), (word,) + (ONE,) * (len(names) + 1)))
        self.assertFalse(is_term(BOOK, ("let", ONE)))
        self.assertFalse(is_term(BOOK, ("let", ONE, ONE, ONE)))

    def test_own_words_belong_to_their_book(self):
        self.assertEqual([names_of(BOOK, word) for word in ("let", "twice", "both")], [(0, 1), (0,), (2, 0)])
        self.assertEqual([names_of((LET,), word) for word in ("let", "twice", "both")], [(0, 1), None, None])
        self.assertTrue(is_term(BOOK, ("twice", ONE)))
        self.assertFalse(is_term((LET,), ("twice", ONE)))
        self.assertFalse(is_term((), ("let", ONE, ONE)))

    def test_what_is_no_word(self):
        for word in ("number", "name", "at", "hole", "boxes", "form", "", "Fn", "fn ", "letter", "x1"):
            self.assertIsNone(names_of(BOOK, word))
        for word in odd_values():
            if word != "fn":
                self.assertIsNone(names_of(BOOK, word))

    def test_reserved_words_have_no_uses(self):
        for word in ("boxes", "form"):
            for many in range(4):
                self.assertFalse(is_pattern(BOOK, (word,) + (ONE,) * many))


class Terms(unittest.TestCase):
    def test_numbers(self):
        for number in (0, 1, -1, 999999999, -999999999):
            self.assertTrue(is_term((), ("number", number)))
        for number in (1000000000, -1000000000, 10 ** 399, -10 ** 399, True, False, None, "1", (1,), [1]):
            self.assertFalse(is_term((), ("number", number)))

    def test_names_and_ats(self):
        for word in ("name", "at"):
            for k in (0, 1, 10 ** 9, 10 ** 399):
                self.assertTrue(is_term((), (word, k)))
                self.assertTrue(is_pattern((), (word, k)))
            for k in (-1, -10 ** 399, True, False, None, "0", (0,)):
                self.assertFalse(is_term((), (word, k)))
            self.assertFalse(is_term((), (word,)))
            self.assertFalse(is_term((), (word, 0, 0)))

    def test_holes(self):
        for hole in (("hole", 0), ("hole", 99), ("hole", 5, 0), ("hole", 5, 3, 3, 10 ** 399), ("hole", 0) + (7,) * 900):
            self.assertTrue(is_pattern((), hole))
            self.assertFalse(is_term((), hole))
            self.assertTrue(is_pattern((), ("fn", hole)))
            self.assertFalse(is_term((), ("fn", hole)))
        for hole in (("hole",), ("hole", 100), ("hole", -1), ("hole", True), ("hole", 0, -1), ("hole", 0, True),
                     ("hole", 0, None), ("hole", "0"), ("hole", (0,)), ["hole", 0]):
            self.assertFalse(is_pattern((), hole))
            self.assertFalse(is_pattern((), ("pair", ONE, hole)))

    def test_terms_are_the_patterns_without_holes(self):
        for seed in range(200):
            row = rng(seed)
            pattern = random_term(row, row.randrange(12), 3, 3, holes=True)
            self.assertTrue(is_pattern(BOOK, pattern))
            self.assertEqual(is_term(BOOK, pattern), "hole" not in repr(pattern))

    def test_lists_are_no_tuples_and_truth_is_no_number(self):
        for value in (["number", 1], ("fn", ["number", 1]), ("pair", ONE, ["pair", ONE, ONE]), ("pair", [ONE, ONE]),
                      ("pair", ONE, ("number", True)), ("fn", ("name", False)), ("fn", ("at", True))):
            self.assertFalse(is_term((), value))
            self.assertFalse(is_pattern((), value))
            self.assertFalse(is_source((), ((), value)))

    def test_any_value_is_judged(self):
        for value in odd_values():
            for judge in (is_term, is_pattern, is_source):
                self.assertIs(judge((), value), False)
                self.assertIs(judge(BOOK, ("pair", ONE, value)), False)
                self.assertIs(judge(BOOK, ((value,), ONE)), False)
                self.assertIs(judge(BOOK, ((), value)), False)
                self.assertIs(judge(BOOK, ((ONE,), ("fn", value))), False)

    def test_arguments_are_not_changed(self):
        for value in ([["number", 1]], {"a": [1, 2]}, ("fn", [1, [2]])):
            before = copy.deepcopy(value)
            for judge in (is_term, is_pattern, is_source, names_of):
                judge((), value)
                self.assertEqual(value, before)

    def test_truth_is_told_by_true_and_false(self):
        self.assertIs(is_term((), ONE), True)
        self.assertIs(is_pattern((), ONE), True)
        self.assertIs(is_source((), ((), ONE)), True)

    def test_by_name(self):
        self.assertTrue(is_term(book=(), value=ONE))
        self.assertTrue(is_pattern(value=ONE, book=()))
        self.assertTrue(is_source(book=(), value=((), ONE)))
        self.assertEqual(names_of(word="fn", book=()), (1,))
        self.assertEqual(length_of(pattern=ONE, book=()), 1)
        self.assertEqual(depth_of(book=(), pattern=ONE), 1)
        self.assertEqual(free_names(book=(), pattern=ONE), ())
        self.assertEqual(boxes_in(book=(), pattern=ONE), ())
        self.assertEqual(part_at(book=(), pattern=ONE, place=()), ONE)


class LengthAndDepth(unittest.TestCase):
    def test_length_counts_words_names_and_leaves(self):
        self.assertEqual(length_of((), ("again", ("name", 0))), 4)
        self.assertEqual(length_of((), ("test", ONE, ("at", 3), ("hole", 4, 1, 2, 3))), 4)
        self.assertEqual(length_of(BOOK, ("let", ONE, ONE)), 4)
        self.assertEqual(length_of(BOOK, ("both", ONE, ONE)), 5)

    def test_depth(self):
        self.assertEqual([depth_of((), ONE), depth_of((), ("hole", 0, 1)), depth_of((), ("at", 0))], [1, 1, 1])
        self.assertEqual(depth_of((), ("test", ONE, ("say", ("say", ONE)), ("say", ONE))), 4)
        self.assertEqual(depth_of((), ("pair", ("say", ("say", ONE)), ("say", ONE))), 4)

    def test_as_told_part_by_part(self):
        for seed in range(300):
            row = rng(seed)
            pattern = random_term(row, row.randrange(30), 2, 2, holes=True)
            self.assertEqual(length_of(BOOK, pattern), plain_length(pattern))
            self.assertEqual(depth_of(BOOK, pattern), plain_depth(pattern))

    def test_greatest_length(self):
        for length in (1499, 1500):
            self.assertEqual(length_of((), long_term(length)), length)
            self.assertTrue(is_term((), long_term(length)))
        for length in (1501, 1502, 3000):
            self.assertFalse(is_term((), long_term(length)))
            self.assertFalse(is_pattern((), long_term(length)))
        self.assertTrue(is_pattern((), ("pair", ("hole", 0), long_term(1498))))
        self.assertFalse(is_pattern((), ("pair", ("hole", 0), long_term(1499))))

    def test_names_count_for_the_greatest_length(self):
        self.assertTrue(is_term((), ("again", long_term(1497))))
        self.assertFalse(is_term((), ("again", long_term(1498))))
        self.assertTrue(is_term(BOOK, ("both", long_term(1496), ONE)))
        self.assertFalse(is_term(BOOK, ("both", long_term(1497), ONE)))

    def test_greatest_depth(self):
        for judge in (is_term, is_pattern):
            self.assertTrue(judge((), deep_term(60)))
            self.assertFalse(judge((), deep_term(61)))
            self.assertFalse(judge((), ("pair", ONE, deep_term(60))))
            self.assertTrue(judge((), ("pair", ONE, deep_term(59))))
        self.assertEqual(depth_of((), deep_term(60)), 60)

    def test_wrong_pattern(self):
        for told in (length_of, depth_of, free_names, boxes_in):
            for value in odd_values() + [deep_term(61), long_term(1501), ("let", ONE, ONE)]:
                with self.assertRaises(InvalidTerm) as caught:
                    told((), value)
                self.assertIs(caught.exception.given, value)


class FreeNamesAndBoxes(unittest.TestCase):
    def test_free_names(self):
        self.assertEqual(free_names((), ("name", 7)), (7,))
        self.assertEqual(free_names((), ("fn", ("name", 0))), ())
        self.assertEqual(free_names((), ("fn", ("name", 1))), (0,))
        self.assertEqual(free_names((), ("again", ("pair", ("name", 0), ("name", 1)))), ())
        self.assertEqual(free_names((), ("again", ("pair", ("name", 2), ("name", 12)))), (0, 10))
        self.assertEqual(free_names((), ("pair", ("name", 10), ("pair", ("name", 9), ("name", 10)))), (9, 10))
        self.assertEqual(free_names(BOOK, ("let", ("name", 0), ("name", 0))), (0,))
        self.assertEqual(free_names(BOOK, ("both", ("name", 2), ("name", 2))), (0, 2))

    def test_free_names_of_holes(self):
        self.assertEqual(free_names((), ("hole", 5, 3, 1, 3)), (1, 3))
        self.assertEqual(free_names((), ("fn", ("hole", 5, 0, 2))), (1,))
        self.assertEqual(free_names((), ("hole", 5)), ())

    def test_free_names_by_levels(self):
        for seed in range(300):
            row = rng(seed)
            pattern = random_term(row, row.randrange(20), 5, 2, holes=True)
            wanted = tuple(sorted(free_of_tree(by_levels(pattern))))
            self.assertEqual(free_names(BOOK, pattern), wanted)

    def test_boxes_in(self):
        at = [("at", k) for k in range(5)]
        self.assertEqual(boxes_in((), at[3]), (3,))
        self.assertEqual(boxes_in((), ("test", at[2], ("pair", at[4], at[2]), at[0])), (2, 4, 0))
        self.assertEqual(boxes_in((), ("fn", ("name", 0))), ())
        self.assertEqual(boxes_in((), ("pair", ("hole", 3, 4), ("at", 10 ** 30))), (10 ** 30,))


class Places(unittest.TestCase):
    def all_places(self, pattern):
        found = [((), pattern)]
        if not is_leaf(pattern):
            for index, part in enumerate(pattern[1:]):
                found.extend([((index,) + place, there) for place, there in self.all_places(part)])
        return found

    def test_part_at_each_place(self):
        for seed in range(60):
            row = rng(seed)
            pattern = random_term(row, 9, 2, 2, holes=True)
            for place, there in self.all_places(pattern):
                self.assertEqual(part_at(BOOK, pattern, place), there)

    def test_no_places(self):
        pattern = ("test", ("fn", ("hole", 0, 1)), ("pair", ONE, ("name", 2)), ("at", 0))
        wrong = [
            (-1,), (3,), (1, 2), (1, -1), (0, 1), (2, 0), (0, 0, 0), (1, 0, 0), (1, 1, 0), [], [0], (True,), (False,),
            (0, True), ("0",), (None,), ((0,),), (10 ** 399,), (-10 ** 399,), None, 0, "", "0", {}, (0,) * 20000,
            nested(200),
        ]
        for place in wrong:
            with self.assertRaises(InvalidPlace) as caught:
                part_at((), pattern, place)
            self.assertIs(caught.exception.given, place)

    def test_the_pattern_is_checked_ahead_of_the_place(self):
        self.assertRaises(InvalidTerm, part_at, (), ("fn",), [])


class Sources(unittest.TestCase):
    def test_ordinary_ones(self):
        for source in (((), ONE), ((ONE,), ("at", 0)), ((("at", 1), ("at", 0)), ("pair", ("at", 1), ONE)),
                       ((ONE, ONE), ONE), ((("fn", ("name", 0)),), ("say", ONE))):
            self.assertTrue(is_source((), source))

    def test_own_words(self):
        source = ((("let", ONE, ("name", 0)),), ("let", ("at", 0), ("at", 0)))
        self.assertTrue(is_source((LET,), source))
        self.assertFalse(is_source((), source))

    def test_not_closed(self):
        for source in (((), ("name", 0)), ((), ("fn", ("name", 1))), ((("name", 0),), ONE),
                       ((ONE, ("fn", ("name", 1))), ONE),
                       ((), ("again", ("name", 2)))):
            self.assertFalse(is_source((), source))

    def test_ats_below_the_number_of_boxes(self):
        for number in range(5):
            self.assertEqual(is_source((), ((ONE, ONE), ("fn", ("at", number)))), number < 2)
            self.assertEqual(is_source((), ((ONE, ("say", ("at", number))), ONE)), number < 2)
        self.assertFalse(is_source((), ((), ("at", 0))))

    def test_holes(self):
        self.assertFalse(is_source((), ((), ("hole", 0))))
        self.assertFalse(is_source((), ((("hole", 0),), ONE)))

    def test_wrong_pairs(self):
        for value in (ONE, (), ((),), ((), ONE, ONE), ([], ONE), [(), ONE], (ONE, ONE), (None, ONE), ((), None),
                      ("", ONE)):
            self.assertFalse(is_source((), value))

    def test_length_of_all_boxes_together(self):
        self.assertTrue(is_source((), ((), long_term(1500))))
        self.assertTrue(is_source((), ((long_term(500), long_term(600)), long_term(400))))
        self.assertFalse(is_source((), ((long_term(500), long_term(600)), long_term(401))))
        self.assertFalse(is_source((), ((long_term(501), long_term(600)), long_term(400))))
        self.assertTrue(is_source((), ((ONE,) * 1499, ONE)))
        self.assertFalse(is_source((), ((ONE,) * 1500, ONE)))
        self.assertFalse(is_source((), ((ONE,) * 20000, ONE)))

    def test_depth_is_the_greatest(self):
        self.assertTrue(is_source((), ((deep_term(60), deep_term(60)), deep_term(60))))
        self.assertFalse(is_source((), ((deep_term(60), deep_term(61)), ONE)))
        self.assertFalse(is_source((), ((ONE,), deep_term(61))))


class Helpers(unittest.TestCase):
    def test_words_of_the_helpers_are_those_of_the_book(self):
        self.assertEqual({word: names_of(BOOK, word) for word in WORDS}, WORDS)


if __name__ == "__main__":
    unittest.main()
