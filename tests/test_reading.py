"""Points 15 and 16: what texts tell, and the place of the first wrong in the first check that finds one."""

import unittest

from formstead.errors import InvalidBook, InvalidText, TooGreat
from formstead.terms import depth_of, is_source, length_of
from formstead.texts import are_alike, print_source, read_source
from tests.helpers import BOOK, CORE, LET, WORDS, deep_term, long_term, odd_values, random_source, rng
from tests.plain_reader import Wrong, plain_read

ONE = ("number", 1)


def name(k):
    return ("name", k)


class Reading(unittest.TestCase):
    def reads(self, text, term, boxes=(), book=()):
        self.assertEqual(read_source(book, text), (boxes, term), text)

    def wrong(self, text, place, book=()):
        with self.assertRaises(InvalidText) as caught:
            read_source(book, text)
        self.assertEqual(caught.exception.place, place, text)
        with self.assertRaises(InvalidText) as caught:
            are_alike(book, text, "1")
        self.assertEqual(caught.exception.place, place, text)
        with self.assertRaises(InvalidText) as caught:
            are_alike(book, "1", text)
        self.assertEqual(caught.exception.place, place, text)

    def marked(self, *texts):
        """Texts with a mark ahead of the place that is wrong."""
        for text in texts:
            self.wrong(text.replace("|", ""), text.index("|"))


class OrdinaryTexts(Reading):
    def test_numerals(self):
        for text, number in (("0", 0), ("7", 7), ("-7", -7), ("10", 10), ("999999999", 999999999),
                             ("-999999999", -999999999), ("-10", -10)):
            self.reads(text, ("number", number))

    def test_each_core_word(self):
        for word, names in CORE.items():
            parts = [" ".join(["a", "b"][:many] + ["1"]) for many in names]
            self.reads("(" + word + " " + " ".join(parts) + ")", (word,) + (ONE,) * len(names))

    def test_bound_names(self):
        self.reads("(fn x x)", ("fn", name(0)))
        self.reads("(fn x (fn y (pair x y)))", ("fn", ("fn", ("pair", name(1), name(0)))))
        self.reads("(fn x (pair (fn x x) x))", ("fn", ("pair", ("fn", name(0)), name(0))))
        self.reads("(fn x (fn x x))", ("fn", ("fn", name(0))))
        self.reads("(pair (fn x x) (fn x x))", ("pair", ("fn", name(0)), ("fn", name(0))))

    def test_two_names_of_again(self):
        self.reads("(again f x (call f x))", ("again", ("call", name(1), name(0))))
        inside = ("fn", ("call", name(2), ("pair", name(1), name(0))))
        self.reads("(again f x (fn y (call f (pair x y))))", ("again", inside))
        self.reads("(again x x x)", ("again", name(0)))

    def test_own_words(self):
        self.reads("(let 3 x (plus x 1))", ("let", ("number", 3), ("plus", name(0), ONE)), book=(LET,))
        self.reads("(both f x (call f x) (fn y y))", ("both", ("call", name(1), name(0)), ("fn", name(0))), book=BOOK)
        self.reads("(fn x (let x x x))", ("fn", ("let", name(0), name(0))), book=BOOK)
        self.wrong("(let 3 x (plus x 1))", 1)
        self.wrong("(twice 3)", 1, (LET,))
        self.wrong("(let x x x)", 5, (LET,))

    def test_names_may_read_like_words(self):
        self.reads("(fn fn fn)", ("fn", name(0)))
        self.reads("(fn fn (fn x (call fn x)))", ("fn", ("fn", ("call", name(1), name(0)))))
        for told in (
            "fn", "again", "test", "number", "name", "at", "hole", "boxes", "form", "let", "a", "abcdefgh",
            "a1234567",
        ):
            self.reads(f"(fn {told} (plus {told} 1))", ("fn", ("plus", name(0), ONE)), book=BOOK)
            self.reads(f"(boxes {told} 1 {told})", ("at", 0), (ONE,), BOOK)

    def test_boxes(self):
        self.reads("(boxes a 1 a)", ("at", 0), (ONE,))
        self.reads("(boxes a 1 b 2 (pair b a))", ("pair", ("at", 1), ("at", 0)), (ONE, ("number", 2)))
        self.reads("(boxes a 1 5)", ("number", 5), (ONE,))
        self.reads("(boxes a b b a b)", ("at", 1), (("at", 1), ("at", 0)))
        self.reads("(boxes a a a)", ("at", 0), (("at", 0),))
        self.reads("(boxes a (fn x b) b 1 (look a))", ("look", ("at", 0)), (("fn", ("at", 1)), ONE))

    def test_without_any_box(self):
        self.reads("(boxes 5)", ("number", 5))
        self.reads("(boxes (fn x x))", ("fn", name(0)))
        self.wrong("(boxes a)", 7)

    def test_boxes_are_hidden_by_bound_names(self):
        self.reads("(boxes a 1 (fn a a))", ("fn", name(0)), (ONE,))
        self.reads("(boxes a 1 (pair (fn a a) a))", ("pair", ("fn", name(0)), ("at", 0)), (ONE,))
        self.reads("(boxes a (fn b b) b (fn a b) (fn x a))", ("fn", ("at", 0)), (("fn", name(0)), ("fn", ("at", 1))))

    def test_boxes_stand_at_the_beginning_alone(self):
        self.wrong("(fn x (boxes a 1 a))", 7)
        self.wrong("(boxes (boxes 5))", 8)
        self.wrong("(boxes a (boxes 5) a)", 10)

    def test_blanks_and_line_feeds(self):
        for text in (
            "(fn x(pair(say x)x))", " (fn x (pair (say x) x)) ", "\n\n( fn\nx\n(pair\n( say\nx )\nx )\n)\n",
            "(fn   x (pair( say x )x))", "(fn x(pair (say\nx)\n\n  x) )",
        ):
            self.reads(text, ("fn", ("pair", ("say", name(0)), name(0))))
        self.reads("  5", ("number", 5))
        self.reads("5\n", ("number", 5))
        self.reads("(boxes(fn x x))", ("fn", name(0)))
        self.reads("(boxes a(fn x x)b 1(look a))", ("look", ("at", 0)), (("fn", name(0)), ONE))
        self.reads("(test 1 -1 0)", ("test", ONE, ("number", -1), ("number", 0)))
        self.wrong("(fnx x)", 1)
        self.wrong("(fn x x)y", 8)

    def test_prints_and_the_second_reader(self):
        for seed in range(200):
            source = random_source(rng(seed))
            text = print_source(BOOK, source)
            self.assertEqual(read_source(BOOK, text), source)
            self.assertEqual(plain_read(text), source)


class FirstCheck(Reading):
    def test_what_is_no_string(self):
        for value in odd_values():
            if not isinstance(value, str) or len(value) > 100000:
                self.wrong(value, None)
        self.wrong(["1"], None)
        self.wrong(b"1", None)

    def test_signs(self):
        for sign in "A_.,;+*/[]{}'\"\t\r\v\x00\xe4\u0661\xb2\uff11\u2028\ud800#~":
            self.wrong(sign, 0)
            self.wrong("(plus 1 " + sign + "1)", 8)
            self.wrong("5" + sign, 1)

    def test_ahead_of_all_other_checks(self):
        self.wrong(") 05 x (plus 1 A)", 15)
        self.wrong(")A", 1)
        self.wrong("05A B", 2)
        self.wrong("x y\t", 3)

    def test_how_many_signs(self):
        self.reads(" " * 99999 + "5", ("number", 5))
        self.wrong(" " * 100000 + "5", None)
        self.wrong("A" * 100001, None)
        self.wrong(" " * 100000, 100000)
        self.wrong("A" * 100000, 0)


class SecondCheck(Reading):
    def test_runs(self):
        for run in (
            "05", "-0", "--1", "-", "1a", "-a", "00", "-05", "a-", "a-b", "1-1", "1-", "ab123456c", "abcdefghi",
            "1234567890", "-1234567890", "0000000001", "9a", "0x1", "1fn",
        ):
            self.wrong(run, 0)
            self.wrong("(plus 1 " + run + ")", 8)
            self.wrong("(" + run + " 1 1)", 1)
            self.wrong("(fn " + run + " 1)", 4)
            self.wrong("(boxes " + run + " 1 1)", 7)

    def test_ahead_of_the_later_checks(self):
        self.wrong("(plus x y z) 05", 13)
        self.wrong(")) a 1a", 5)
        self.wrong("(fn 5 y -)", 8)
        self.wrong("(boxes a x a y (b -0", 18)

    def test_the_first_run_is_told(self):
        self.wrong("(plus 1a 05)", 6)


class ThirdCheck(Reading):
    def test_texts_that_end_too_soon(self):
        for text in (
            "", " ", "\n", "  \n ", "(", "( ", "(plus", "(plus 1", "(plus 1 ", "(plus 1 1", "(fn", "(fn x",
            "(fn x x", "(again f", "(again f x", "(boxes", "(boxes a", "(boxes a 1", "(boxes a 1 ", "(boxes a 1 b",
            "(boxes a 1 b b", "(boxes 5", "(boxes (fn x x)", "(pair (pair 1 1)", "(boxes a (fn x x", "(plus x",
            "(boxes a x a",
        ):
            self.wrong(text, len(text))

    def test_tokens_behind_the_end(self):
        self.marked(
            "1 |1", "1|)", "1|(", "(fn x x) |x", "(fn x x)|)", "(boxes 1) |1", "(boxes a 1 a)|(", "x |y", "1 |fn",
        )

    def test_words(self):
        self.marked(
            "(|)", "(|(", "(|1 2)", "(|x)", "(|number 1)", "(|name x)", "(|at 0)", "(|hole 0)", "(|form 1)", "|)",
            "(say (|1))", "(say (|))", "(say (|x 1))", "(say (|(fn x x)))", "( \n |1)",
        )

    def test_numbers_of_parts(self):
        self.marked(
            "(plus 1|)", "(plus|)", "(plus 1 2 |3)", "(say 1 |2)", "(say|)", "(test 1 2|)", "(test 1 2 3 |4)",
            "(plus 1 (say|) 3)", "(plus 1 2|(", "(plus 1 2 |x)",
        )

    def test_numbers_of_names(self):
        self.marked(
            "(fn x|)", "(fn |1 x)", "(fn |(say x) 1)", "(fn x y |z)", "(fn|)", "(again x|)", "(again x |1 x)",
            "(again x y|)", "(again x y z |1)", "(again x |(say 1))",
        )
        self.wrong("(let x 1)", 7, (LET,))
        self.wrong("(let 1 1 1)", 7, (LET,))
        self.wrong("(both f 1 1)", 8, BOOK)

    def test_boxes(self):
        self.marked(
            "(boxes|)", "(boxes a 1|)", "(boxes a b|)", "(boxes 1 |2)", "(boxes 1 |a)", "(boxes a 1 2 |3)",
            "(boxes a 1 2 |b 3)", "(boxes (say 1) |a)", "(boxes a a|)", "(boxes a 1 b 2 c 3|)", "(boxes a 1 b) |1",
            "(boxes a (say|) 1)", "(boxes a 1 a 2|)",
        )

    def test_whatever_is_seen_and_whatever_names_are_alike(self):
        self.wrong("(pair x (say))", 12)
        self.wrong("(boxes a 1 a 2 (pair c c)", 25)
        self.wrong("(boxes a x a y)", 14)
        self.wrong("(plus x y z)", 10)

    def test_sixty_and_sixty_one_brackets(self):
        self.assertRaises(TooGreat, read_source, (), "(say " * 60 + "1" + ")" * 60)
        self.reads("(say " * 59 + "1" + ")" * 59, deep_term(60))
        self.wrong("(say " * 61 + "1" + ")" * 61, 300)
        self.wrong("(say " * 60 + "()", 300)
        self.wrong("(say " * 60 + ")", 300)
        self.wrong("(say " * 60, 300)
        self.wrong("(" * 100, 1)
        self.wrong("(say " * 80 + "A", 400)
        self.wrong("(say " * 80 + "x 05", 402)

    def test_sixty_and_sixty_one_brackets_behind_closed_ones(self):
        self.reads("(pair (say 1) " + "(say " * 58 + "1" + ")" * 59, ("pair", ("say", ONE), deep_term(59)))
        self.assertRaises(TooGreat, read_source, (), "(pair (say 1) " + "(say " * 59 + "1" + ")" * 60)
        self.wrong("(pair (say 1) " + "(say " * 60 + "1" + ")" * 61, 14 + 295)

    def test_sixty_brackets_with_boxes(self):
        self.reads("(boxes a 1 " + "(say " * 59 + "1" + ")" * 60, deep_term(60), (ONE,))
        self.reads("(boxes a " + "(say " * 59 + "1" + ")" * 59 + " a)", ("at", 0), (deep_term(60),))
        self.wrong("(boxes a 1 " + "(say " * 60 + "1" + ")" * 61, 11 + 295)
        self.wrong("(boxes " + "(say " * 60 + "1" + ")" * 61, 7 + 295)

    def test_brackets_that_are_closed_are_open_no_more(self):
        self.reads(self.chain(100), self.term_of_chain(100))
        self.reads("(boxes a (say 1) (say a))", ("say", ("at", 0)), (("say", ONE),))
        boxes = " ".join([f"a{k} (say 1)" for k in range(100)])
        self.reads(f"(boxes {boxes} 1)", ONE, (("say", ONE),) * 100)

    def chain(self, many):
        return "(say 1)" if many == 1 else f"(pair {self.chain(many // 2)} {self.chain(many - many // 2)})"

    def term_of_chain(self, many):
        if many == 1:
            return ("say", ONE)
        return ("pair", self.term_of_chain(many // 2), self.term_of_chain(many - many // 2))


class FourthCheck(Reading):
    def test_names_that_are_not_seen(self):
        self.marked(
            "|x", " |x", "(fn x |y)", "(pair (fn x x) |x)", "(pair |x (fn x x))", "(plus 1 (plus |y z))",
            "(boxes a 1 |b)", "(boxes a |b 1)", "(fn x (pair (fn y y) |y))", "(again f x |g)", "|fn", "|boxes",
            "(say |boxes)", "(say |fn)",
        )
        self.wrong("(let x x x)", 5, (LET,))
        self.wrong("(pair (let 1 x x) x)", 18, (LET,))
        self.wrong("(both f x 1 f)", 12, BOOK)

    def test_names_that_two_boxes_have(self):
        self.wrong("(boxes a 1 a 2 a)", 11)
        self.wrong("(boxes a 1 b 2 a 3 b 4 a)", 15)
        self.wrong("(boxes a 1 a 2 a 3 a)", 11)
        self.wrong("(boxes a (fn a a) b 1 b 2 a)", 22)

    def test_the_first_of_both_is_told(self):
        self.wrong("(boxes a x a 2 a)", 9)
        self.wrong("(boxes a 1 a x a)", 11)
        self.wrong("(boxes a 1 a 2 x)", 11)
        self.wrong("(boxes a y b x a 2 a)", 9)


class ManyTexts(Reading):
    TOKENS = ["(", ")", "x", "y", "b1", "x1", "1", "-5", "fn", "again", "boxes", "pair", "say", "let", "both", "05",
              "A", "form", "x2"]

    def against_the_second_reader(self, text):
        try:
            wanted = plain_read(text)
        except Wrong as error:
            self.wrong(text, error.args[0], BOOK)
            return False
        self.assertEqual(read_source(BOOK, text), wanted)
        return True

    def test_prints_with_a_token_changed(self):
        right = 0
        for seed in range(1500):
            row = rng(seed)
            text = print_source(BOOK, random_source(row, 6))
            tokens = text.replace("(", " ( ").replace(")", " ) ").split()
            for _ in range(row.randrange(1, 3)):
                at = row.randrange(len(tokens))
                tokens[at:at + row.randrange(2)] = [row.choice(self.TOKENS)] * row.randrange(2)
                tokens = tokens or ["1"]
            right += self.against_the_second_reader(row.choice([" ", "\n", "  "]).join(tokens))
        self.assertGreater(right, 100)

    def test_texts_at_random(self):
        for seed in range(1500):
            row = rng(seed)
            tokens = [row.choice(self.TOKENS[:-4]) for _ in range(row.randrange(9))]
            self.against_the_second_reader("(boxes " * row.randrange(2) + " ".join(tokens))


class TooGreatTexts(Reading):
    def text_of(self, term):
        if not isinstance(term[1], tuple):
            return str(term[1])
        return "(" + " ".join([term[0]] + [self.text_of(part) for part in term[1:]]) + ")"

    def test_length_of_terms(self):
        self.reads(self.text_of(long_term(1500)), long_term(1500))
        self.assertRaises(TooGreat, read_source, (), self.text_of(long_term(1501)))

    def test_length_of_boxes_together(self):
        half = self.text_of(long_term(750))
        self.reads(f"(boxes a {half} {half})", long_term(750), (long_term(750),))
        self.assertRaises(TooGreat, read_source, (), f"(boxes a (say {half}) {half})")
        self.assertRaises(TooGreat, read_source, (), f"(boxes a {half} (say {half}))")

    def test_names_count_but_those_of_boxes_do_not(self):
        self.reads(f"(again f x {self.text_of(long_term(1497))})", ("again", long_term(1497)))
        self.assertRaises(TooGreat, read_source, (), f"(again f x {self.text_of(long_term(1498))})")
        names = ["a" + str(k) for k in range(1499)]
        text = "(boxes " + " ".join([name + " 1" for name in names]) + " 1)"
        self.reads(text, ONE, (ONE,) * 1499)
        self.assertRaises(TooGreat, read_source, (), text.replace("(boxes", "(boxes b 1"))

    def test_great_texts_last(self):
        great = self.text_of(long_term(1501))
        self.wrong(great + ")", len(great))
        self.wrong(f"(pair {great} x)", 7 + len(great))
        self.wrong(f"(pair {great} 05)", 7 + len(great))
        self.wrong("(say " * 59 + "(say x)" + ")" * 59, 300)
        self.wrong(f"(boxes a {great} a 1 1)", 10 + len(great))

    def test_a_text_of_very_many_tokens(self):
        text = "1"
        while len(text) < 30000:
            text = f"(test {text} {text} {text})"
        self.assertLessEqual(len(text), 100000)
        self.assertRaises(TooGreat, read_source, (), text)
        self.wrong(text[:-1], len(text) - 1)

    def test_what_is_read_is_a_source(self):
        for text in (self.text_of(long_term(1500)), "(say " * 59 + "1" + ")" * 59, "(boxes a a a)"):
            source = read_source((), text)
            self.assertTrue(is_source((), source))
            self.assertLessEqual(length_of((), source[1]), 1500)
            self.assertLessEqual(depth_of((), source[1]), 60)


class Alike(unittest.TestCase):
    def test_other_names_and_blanks(self):
        self.assertIs(are_alike((), "(fn x (fn y (pair x y)))", " (fn b(fn a(pair b a))) "), True)
        self.assertIs(are_alike((), "(fn x (fn y (pair x y)))", "(fn x (fn y (pair y x)))"), False)
        self.assertIs(are_alike((), "(boxes a 1 b 2 (pair a b))", "(boxes b 1 a 2 (pair b a))"), True)
        self.assertIs(are_alike((), "(boxes a 1 b 2 (pair a b))", "(boxes b 2 a 1 (pair a b))"), False)
        self.assertIs(are_alike((), "(boxes 5)", "5"), True)
        self.assertIs(are_alike((), "(boxes a 1 5)", "5"), False)
        self.assertIs(are_alike(BOOK, "(let 1 x x)", "(let 1 y y)"), True)
        self.assertIs(are_alike(BOOK, "(let 1 x x)", "(call (fn x x) 1)"), False)
        self.assertIs(are_alike((), "(again f f f)", "(again g f f)"), True)
        self.assertIs(are_alike((), "(again f f f)", "(again f g f)"), False)

    def test_alike_exactly_if_the_prints_are(self):
        texts = [
            "1", "(fn x 1)", "(fn y 1)", "(fn x x)", "(fn y y)", "(fn x (fn x x))", "(fn x (fn y y))",
            "(fn x (fn y x))",
            "(boxes 1)", "(boxes a 1 1)", "(boxes b 1 1)", "(boxes b 1 b)", "(boxes a 1 (fn a a))",
            "(boxes a 1 (fn b a))",
        ]
        for text in texts:
            for other in texts:
                prints = [print_source((), read_source((), one)) for one in (text, other)]
                self.assertIs(are_alike((), text, other), prints[0] == prints[1])

    def told(self, book, text, other):
        with self.assertRaises(ValueError) as caught:
            are_alike(book, text, other)
        return (type(caught.exception), *vars(caught.exception).values())

    def test_order_of_errors(self):
        great = "(say " * 60 + "1" + ")" * 60
        self.assertEqual(self.told([], 1, 1), (InvalidBook, None))
        self.assertEqual(self.told((), "(say y)", "x"), (InvalidText, 5))
        self.assertEqual(self.told((), "x", "A A"), (InvalidText, 0))
        self.assertEqual(self.told((), "(say 1)", "(say y)"), (InvalidText, 5))
        self.assertEqual(self.told((), great, "(say y)"), (InvalidText, 5))
        self.assertEqual(self.told((), great, None), (InvalidText, None))
        self.assertEqual(self.told((), "(say y)", great), (InvalidText, 5))
        self.assertEqual(self.told((), great, "1"), (TooGreat,))
        self.assertEqual(self.told((), "1", great), (TooGreat,))
        self.assertEqual(self.told((), great, great), (TooGreat,))

    def test_by_name(self):
        self.assertIs(are_alike(other="1", text="1", book=()), True)
        self.assertEqual(read_source(text="1", book=()), ((), ONE))

    def test_the_book_is_checked_first(self):
        for call in ((read_source, [], 5), (print_source, [], 5), (are_alike, [], 5, 5)):
            with self.assertRaises(InvalidBook):
                call[0](*call[1:])


class Helpers(unittest.TestCase):
    def test_words_of_the_second_reader(self):
        self.assertEqual(sorted(WORDS), sorted(list(CORE) + ["let", "twice", "both"]))


if __name__ == "__main__":
    unittest.main()
