"""Point 17: prints, prints with told names, and Captured."""

import itertools
import unittest

from formstead.errors import Captured, InvalidBook, InvalidNames, InvalidSource
from formstead.texts import print_source, read_source
from tests.helpers import BOOK, LET, deep_term, long_term, odd_values, random_source, rng
from tests.plain_reader import Wrong, many_names, plain_names, plain_print, plain_read

ONE = ("number", 1)
AGAIN = ((), ("again", ("call", ("name", 1), ("name", 0))))


def name(k):
    return ("name", k)


class Prints(unittest.TestCase):
    def prints(self, source, text, book=()):
        self.assertEqual(print_source(book, source), text)
        self.assertEqual(read_source(book, text), source)

    def test_without_boxes(self):
        self.prints(((), ("number", -5)), "-5")
        self.prints(((), ("fn", name(0))), "(fn x1 x1)")
        self.prints(((), ("pair", ("fn", name(0)), ("say", ONE))), "(pair (fn x1 x1) (say 1))")
        self.prints(((), ("say", ("say", ("say", ONE)))), "(say (say (say 1)))")

    def test_names_by_what_is_outward(self):
        self.prints(((), ("fn", ("fn", ("pair", name(0), name(1))))), "(fn x1 (fn x2 (pair x2 x1)))")
        self.prints(((), ("fn", ("pair", ("fn", name(0)), ("fn", name(1))))), "(fn x1 (pair (fn x2 x2) (fn x2 x1)))")
        self.prints(AGAIN, "(again x1 x2 (call x1 x2))")
        self.prints(((), ("fn", ("again", ("fn", ("test", name(0), name(1), ("pair", name(2), name(3))))))),
                    "(fn x1 (again x2 x3 (fn x4 (test x4 x3 (pair x2 x1)))))")

    def test_boxes(self):
        self.prints(((ONE,), ("at", 0)), "(boxes b1 1 b1)")
        self.prints(((ONE,), ONE), "(boxes b1 1 1)")
        self.prints(((("at", 1), ("fn", ("pair", name(0), ("at", 0)))), ("fn", ("at", 1))),
                    "(boxes b1 b2 b2 (fn x1 (pair x1 b1)) (fn x1 b2))")
        self.prints(((("at", 0),), ("at", 0)), "(boxes b1 b1 b1)")
        self.prints(((ONE,) * 12, ("at", 11)), "(boxes " + "".join([f"b{k} 1 " for k in range(1, 13)]) + "b12)")

    def test_own_words(self):
        self.prints(((), ("let", ONE, ("both", name(1), name(0)))), "(let 1 x1 (both x2 x3 x2 x1))", BOOK)
        self.prints(((), ("fn", ("let", name(0), name(0)))), "(fn x1 (let x1 x2 x2))", (LET,))

    def test_against_the_second_printer(self):
        for seed in range(300):
            source = random_source(rng(seed), 20)
            text = print_source(BOOK, source)
            self.assertEqual(plain_print(source, plain_names(source)), text)
            self.assertEqual(plain_read(text), source)
            self.assertEqual(read_source(BOOK, text), source)

    def test_one_print_exactly_if_equal(self):
        sources = {random_source(rng(seed), 3) for seed in range(400)}
        self.assertEqual(len({print_source(BOOK, source) for source in sources}), len(sources))

    def test_greatest_ones(self):
        for source in (((), deep_term(60)), ((deep_term(60),), deep_term(60)), ((), long_term(1500)),
                       ((ONE,) * 1499, ("at", 1498))):
            self.assertEqual(read_source((), print_source((), source)), source)
        deep = name(117)
        for _ in range(59):
            deep = ("again", deep)
        text = print_source((), ((), deep))
        self.assertTrue(text.endswith("(again x117 x118 x1" + ")" * 59))
        self.assertEqual(read_source((), text), ((), deep))

    def test_wrong_sources(self):
        wrong = [
            ((), name(0)), ((), ("at", 0)), ((ONE,), ("hole", 0)), ((), ("let", ONE, ONE)), [(), ONE],
            ((), deep_term(61)), ((), long_term(1501)),
        ]
        for source in odd_values() + wrong:
            for names in (None, (), []):
                with self.assertRaises(InvalidSource) as caught:
                    print_source((), source, names=names)
                self.assertIs(caught.exception.given, source)


class ToldNames(unittest.TestCase):
    def test_names_in_the_order_of_the_text(self):
        self.assertEqual(print_source((), AGAIN, names=("f", "x")), "(again f x (call f x))")
        source = ((("fn", ("again", ("pair", name(2), name(1)))), ("at", 0)), ("fn", ("pair", name(0), ("at", 1))))
        self.assertEqual(print_source((), source, names=("a", "c", "d", "e", "b", "g")),
                         "(boxes a (fn c (again d e (pair c d))) b a (fn g (pair g b)))")
        source = ((), ("let", ("fn", name(0)), ("both", ("fn", name(2)), name(0))))
        self.assertEqual(print_source(BOOK, source, names=tuple("abcde")), "(let (fn a a) b (both c d (fn e c) b))")

    def test_names_like_words(self):
        for told in ("fn", "boxes", "number", "form", "abcdefgh", "a1", "let"):
            self.assertEqual(print_source((), ((), ("fn", name(0))), names=(told,)), f"(fn {told} {told})")
            self.assertEqual(print_source((), ((ONE,), ("at", 0)), names=(told,)), f"(boxes {told} 1 {told})")

    def test_no_names_at_all(self):
        self.assertEqual(print_source((), ((), ONE), names=()), "1")
        self.assertEqual(print_source((), AGAIN, names=None), print_source((), AGAIN))

    def test_like_names_that_capture_nothing(self):
        self.assertEqual(print_source((), ((), ("pair", ("fn", name(0)), ("fn", name(0)))), names=("x", "x")),
                         "(pair (fn x x) (fn x x))")
        self.assertEqual(print_source((), ((), ("fn", ("fn", name(0)))), names=("x", "x")), "(fn x (fn x x))")
        self.assertEqual(print_source((), ((), ("again", name(0))), names=("x", "x")), "(again x x x)")
        self.assertEqual(print_source((), ((ONE,), ("fn", name(0))), names=("a", "a")), "(boxes a 1 (fn a a))")
        self.assertEqual(print_source((), ((ONE,), ("pair", ("fn", name(0)), ("at", 0))), names=("a", "a")),
                         "(boxes a 1 (pair (fn a a) a))")

    def test_captured(self):
        captured = [
            (AGAIN, ("x", "x")),
            (((), ("again", name(1))), ("x", "x")),
            (((), ("fn", ("fn", name(1)))), ("x", "x")),
            (((), ("fn", ("fn", ("fn", name(2))))), ("x", "y", "x")),
            (((ONE,), ("fn", ("at", 0))), ("a", "a")),
            (((("fn", ("at", 0)),), ONE), ("a", "a")),
            (((ONE, ("fn", ("at", 0))), ONE), ("a", "b", "a")),
            (((ONE, ONE), ONE), ("a", "a")),
            (((("at", 1), ONE), ("at", 0)), ("a", "a")),
        ]
        for source, names in captured:
            with self.assertRaises(Captured):
                print_source((), source, names=names)
        self.assertRaises(Captured, print_source, (LET,), ((), ("fn", ("let", ONE, name(1)))), names=("x", "x"))

    def test_captured_exactly_if_the_text_would_not_read_as_the_source(self):
        told = {True: 0, False: 0}
        for seed in range(400):
            row = rng(seed)
            source = random_source(row, 5)
            many = many_names(source)
            rows = list(itertools.product("ab", repeat=many)) if many < 5 else [
                tuple([row.choice(["a", "b", "c", "d"]) for _ in range(many)]) for _ in range(10)]
            for names in rows:
                text = plain_print(source, names)
                try:
                    reads = plain_read(text) == source
                except Wrong:
                    reads = False
                told[reads] += 1
                if reads:
                    self.assertEqual(print_source(BOOK, source, names=names), text)
                else:
                    self.assertRaises(Captured, print_source, BOOK, source, names=names)
        self.assertGreater(min(told.values()), 200)

    def refused(self, source, names, index):
        with self.assertRaises(InvalidNames) as caught:
            print_source((), source, names=names)
        self.assertEqual(caught.exception.index, index)

    def test_wrong_rows_of_names(self):
        for names in ((), ("x",), ("x", "y", "z"), ["x", "y"], "xy", 2, False, {"x": 1, "y": 2}, (1,), ("X",)):
            self.refused(AGAIN, names, None)
        self.refused(((), ONE), ("x",), None)
        self.refused(((), ONE), [], None)
        self.refused(((ONE,), ("fn", name(0))), ("a",), None)

    def test_wrong_names(self):
        for wrong in ("", "X", "1", "1a", "x-", "abcdefghi", "x y", " x", "x\n", "\xe4", "-1", None, 1, ("x",), b"x",
                      True, ["x"]):
            self.refused(AGAIN, ("x", wrong), 1)
            self.refused(AGAIN, (wrong, "x"), 0)
            self.refused(AGAIN, (wrong, wrong), 0)
        for value in odd_values():
            if value not in ("a", "number", "fn"):
                self.refused(AGAIN, ("x", value), 1)

    def test_order_of_errors(self):
        with self.assertRaises(InvalidBook):
            print_source([], None, names=[])
        with self.assertRaises(InvalidSource):
            print_source((), None, names=[])
        self.refused(((ONE, ONE, ONE), ONE), ("a", "a", "A"), 2)

    def test_names_by_name_alone(self):
        self.assertRaises(TypeError, print_source, (), AGAIN, ("f", "x"))
        self.assertEqual(print_source(names=("f", "x"), source=AGAIN, book=()), "(again f x (call f x))")


if __name__ == "__main__":
    unittest.main()
