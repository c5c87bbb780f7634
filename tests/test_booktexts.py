"""Point 18: the texts of books, the place of the first wrong, InvalidBook last, and prints."""

import unittest

from formstead.book import is_book
from formstead.booktexts import print_book, read_book
from formstead.errors import InvalidBook, InvalidText
from tests.helpers import BOOK, CORE, LET, TWICE, odd_values, rng
from tests.plain_book_reader import Wrong, plain_forms, plain_print_book
from tests.random_books import random_book, random_template
from tests.test_openings import WIDE

ONE = ("number", 1)
LET_TEXT = "(form let (value) (body x) (call (fn y (body y)) (value)))"
SAY_TEXT = "(form {} (h) (say (h)))"


def says(many, inner):
    return "(say " * many + inner + ")" * many


class Books(unittest.TestCase):
    def reads(self, text, *forms):
        self.assertEqual(read_book(text), forms, text)
        self.assertTrue(is_book(forms))

    def wrong(self, text, place):
        with self.assertRaises(InvalidText) as caught:
            read_book(text)
        self.assertEqual(caught.exception.place, place, text)

    def marked(self, *texts):
        """Texts with a mark ahead of the place that is wrong."""
        for text in texts:
            self.wrong(text.replace("|", ""), text.index("|"))

    def no_book(self, text, index=0):
        with self.assertRaises(InvalidBook) as caught:
            read_book(text)
        self.assertEqual(caught.exception.index, index, text)


class Reading(Books):
    def test_no_forms(self):
        for text in ("", " ", "\n", "  \n \n"):
            self.reads(text)

    def test_one_form(self):
        self.reads(LET_TEXT, LET)
        self.reads("(form so (h) (say (h)))", ("so", (0,), ("say", ("hole", 0))))

    def test_forms_behind_one_another(self):
        text = LET_TEXT + "\n(form twice (v) (let (v) y (plus y y)))"
        self.reads(text, LET, TWICE)
        self.reads(text.replace("\n", ""), LET, TWICE)

    def test_blanks_and_line_feeds(self):
        self.reads(" ( form\nlet(value)( body x )\n\n(call(fn y(body y))(value) ) ) ", LET)

    def test_holes_are_numbered_as_told(self):
        self.reads("(form ab (one) (two) (pair (two) (one)))", ("ab", (0, 0), ("pair", ("hole", 1), ("hole", 0))))
        self.reads("(form ab (a) (b) (c) (d) (pair (pair (d) (c)) (pair (b) (a))))",
                   ("ab", (0,) * 4, ("pair", ("pair", ("hole", 3), ("hole", 2)), ("pair", ("hole", 1), ("hole", 0)))))

    def test_names_at_holes(self):
        cross = ("cross", (2,), ("again", ("fn", ("hole", 0, 2, 0))))
        self.reads("(form cross (h a b) (again f x (fn y (h f y))))", cross)
        self.reads("(form cross (h a a) (again f x (fn y (h f y))))", cross)
        self.reads("(form ab (h a) (fn x (pair (h x) (fn x x))))",
                   ("ab", (1,), ("fn", ("pair", ("hole", 0, 0), ("fn", ("name", 0))))))
        self.reads("(form ab (h a) (fn x (fn x (h x))))", ("ab", (1,), ("fn", ("fn", ("hole", 0, 0)))))
        self.reads("(form ab (h a) (again x x (h x)))", ("ab", (1,), ("again", ("hole", 0, 0))))

    def test_names_in_told_holes_are_any(self):
        for one in ("fn", "form", "hole", "let", "h", "x1", "zz", "again"):
            for other in ("fn", "so", "h"):
                self.reads(f"(form so (h {one} {other}) (again f x (h f x)))",
                           ("so", (2,), ("again", ("hole", 0, 1, 0))))

    def test_names_bound_in_templates_are_any(self):
        for name in ("fn", "form", "h", "so", "let", "boxes"):
            self.reads(f"(form so (h a) (fn {name} (pair {name} (h {name}))))",
                       ("so", (1,), ("fn", ("pair", ("name", 0), ("hole", 0, 0)))))

    def test_holes_named_like_words_of_later_forms(self):
        self.reads("(form ab (cd) (say (cd)))(form cd (h) (say (ab (h))))",
                   ("ab", (0,), ("say", ("hole", 0))), ("cd", (0,), ("say", ("ab", ("hole", 0)))))

    def test_one_hole_name_in_two_forms(self):
        self.reads("(form ab (h) (say (h)))(form cd (h x) (fn y (h y)))",
                   ("ab", (0,), ("say", ("hole", 0))), ("cd", (1,), ("fn", ("hole", 0, 0))))

    def test_words_of_forms_ahead_bind(self):
        self.reads(LET_TEXT + "(form ab (h x) (let 1 y (h y)))", LET, ("ab", (1,), ("let", ONE, ("hole", 0, 0))))

    def test_eight_forms(self):
        words = ["w" + letter for letter in "abcdefghi"]
        text = " ".join([SAY_TEXT.format(word) for word in words[:8]])
        self.reads(text, *[(word, (0,), ("say", ("hole", 0))) for word in words[:8]])
        self.wrong(text + " " + SAY_TEXT.format("wi"), len(text) + 1)
        self.wrong(text + " (say", len(text) + 1)


class Texts(Books):
    def test_no_text(self):
        for value in odd_values():
            if not isinstance(value, str) or len(value) > 100000:
                self.wrong(value, None)
        self.wrong(" " * 100001, None)
        self.reads(" " * 100000)

    def test_signs(self):
        self.marked("(form let|_ (v) (w) 05", "|%", "(form let (h) (say (h)))|\t", "(form |Let (h) (say (h)))")

    def test_runs(self):
        self.marked("(form |abcdefghi (h) (say x))", "(form so (h) (say |05))", "(form (x |-0", "(say 1) |-")

    def test_shape_of_forms(self):
        self.marked("|1", "|x", "|)", "(|say 1)", "(|let", "(form so (h) (say (h)))|x", "(form so (h) (say (h)))|)",
                    "(form so (h) (say (h))|(", "(form so (h) (say (h)) |x)", "(form so (h) (say (h)))(|formm")
        self.marked("(|(form", "(form |(so) (h) (say (h)))", "(|boxes (form so (h) (say (h))))")

    def test_texts_that_end_too_soon(self):
        text = LET_TEXT + SAY_TEXT.format("so")
        for end in range(1, len(text)):
            if end != len(LET_TEXT) and text[:end].strip(" ") == text[:end]:
                with self.assertRaises(InvalidText) as caught:
                    read_book(text[:end])
                self.assertLessEqual(caught.exception.place, end)
        for part in ("(", "(form", "(form so", "(form so (", "(form so (h", "(form so (h)", "(form so (h) (",
                     "(form so (h) (say", "(form so (h) (say (", "(form so (h) (say (h)", "(form so (h) (say (h))"):
            self.wrong(part, len(part))
            self.wrong(part + " ", len(part) + 1)

    def test_words(self):
        for word in list(CORE) + ["number", "name", "at", "hole", "boxes", "form", "a", "a1", "x1", "5", "-3", ")"]:
            self.wrong(f"(form {word} (h) (say (h)))", 6)
        self.marked(LET_TEXT + "(form |let (h) (say (h)))", LET_TEXT + "(form so (h) (say (h)))(form |let")

    def test_names_of_told_holes(self):
        for name in list(CORE) + ["number", "name", "at", "hole", "boxes", "form", "so", "let", "5", "-3", "(", ")"]:
            self.wrong(LET_TEXT + f"(form so ({name} x) (say (h)))", len(LET_TEXT) + 10)
        for name in ["number", "name", "at", "hole", "boxes", "form", "so", "ha", "5", "-3", "(", ")"]:
            self.wrong(LET_TEXT + f"(form so (ha) ({name} x) (say (h)))", len(LET_TEXT) + 15)
        self.marked("(form so (a) (b) (|a) (say (a)))", "(form so (a) (b) (|b x) (say (a)))")

    def test_how_many_told_holes(self):
        self.marked("(form so |x", "(form so |)", "(form so |1", "(form so (|say (h)))")
        self.marked("(form so (a) (b) (c) (d) (|e) (say 1))", "(form so (a) |b", "(form so (a) |)", "(form so (a) |1)")

    def test_names_in_told_holes(self):
        self.marked("(form so (h a b |c) (say (h)))", "(form so (h |1)", "(form so (h |(", "(form so (h a |1)",
                    "(form so (h a |(", "(form so (h a b |1)", "(form so (h a b |(", "(form so (h a b |so")

    def test_template_is_a_use(self):
        self.marked("(form so (h) |h)", "(form so (h) |5)", "(form so (h) (|h))", "(form so (h) (|h) )",
                    "(form so (h) (h2) (|h))", "(form so (h) (|(", "(form so (h) (|)")

    def test_words_in_templates(self):
        self.marked("(form so (h) (say (|so (h))))", "(form so (h) (|so (h)))", "(form so (h) (say (|let 1 x x)))",
                    "(form so (h) (say (|boxes (h))))", "(form so (h) (say (|k)))", "(form so (h) (say (|number 1)))")
        self.marked("(form ab (h) (say (|cd (h))))(form cd (h) (say (h)))",
                    "(form ab (h) (say (h)))(form cd (k) (say (|h)))")

    def test_numbers_of_parts_and_names(self):
        self.marked("(form so (h) (say (h) |(h)))", "(form so (h) (pair (h)|))", "(form so (h) (fn |(h)))",
                    "(form so (h) (fn x |))", "(form so (h) (again f |(h)))", "(form so (h) (say |))")

    def test_numbers_of_names_at_holes(self):
        self.marked("(form so (h x) (fn y (h|)))", "(form so (h x) (fn y (h y |y)))", "(form so (h) (fn y (h |y)))",
                    "(form so (h x y) (fn y (h y|)))", "(form so (h x y) (fn y (h y y |y)))",
                    "(form so (h x) (fn y (h |1)))", "(form so (h x) (fn y (h |(h y))))")

    def test_sixty_and_sixty_one_brackets(self):
        # Those of the form and of the hole are open, too.
        self.no_book(f"(form so (h) {says(58, '(h)')})")
        self.no_book(f"(form so (h) {says(59, '1')})")
        text = f"(form so (h) {says(59, '(h)')})"
        self.wrong(text, text.rindex("("))
        text = f"(form so (h) {says(60, '1')})"
        self.wrong(text, text.rindex("("))
        self.reads("(form so (h) (pair " + says(21, "1") + " (h)))",
                   ("so", (0,), ("pair", eval_says(21), ("hole", 0))))

    def test_names_that_are_not_seen(self):
        self.marked("(form so (h) (pair (h) |x))", "(form so (h) (pair (fn x x) (pair |x (h))))",
                    "(form so (h) (pair (h) |h))", "(form so (h x) (pair (fn x x) (h |x)))",
                    "(form so (h x y) (fn a (h a |x)))", "(form so (h x) (fn y (h |x)))",
                    "(form so (h x y) (fn a (h |y |x)))".replace("|x", "x"),
                    "(form so (v) (say (v)))(form ab (h x) (pair |x (fn y (h z))))")

    def test_names_of_one_form_are_not_seen_in_the_next(self):
        self.marked("(form ab (h x) (fn y (h y)))(form cd (h x) (fn z (h |y)))")

    def test_each_check_over_the_whole_text(self):
        unseen, misshapen, bad_run, bad_sign = "(form ab (h) (say x))", "(form cd h)", "(form -x", "%"
        self.wrong(unseen + misshapen + bad_run + bad_sign, 21 + 11 + 8)
        self.wrong(unseen + misshapen + bad_run, 21 + 11 + 6)
        self.wrong(unseen + misshapen, 21 + 9)
        self.wrong(unseen, 18)
        self.wrong("(form ab (h) (say 1))" + unseen.replace("ab", "cd"), 21 + 18)


class NoBooks(Books):
    def test_holes_not_just_once(self):
        self.no_book("(form so (h) (say 1))")
        self.no_book("(form so (h) (pair (h) (h)))")
        self.no_book("(form so (a) (b) (pair (a) (pair 1 (a))))")
        self.no_book("(form so (a) (b) (test (a) (b) (a)))")

    def test_names_led_to_one(self):
        self.no_book("(form so (h a b) (again f x (h x x)))")
        self.no_book("(form so (h a b) (again f x (h f f)))")
        self.no_book("(form so (h a b) (again x x (h x x)))")
        self.reads("(form so (h a b) (again f x (h x f)))", ("so", (2,), ("again", ("hole", 0, 0, 1))))

    def test_lengths(self):
        self.reads(f"(form so (h) {says(23, '(h)')})", ("so", (0,), eval_says(23, ("hole", 0))))
        self.no_book(f"(form so (h) {says(24, '(h)')})")
        self.no_book("(form so (h) (again f x (pair (h) " + says(20, "1") + ")))")
        self.no_book("(form so (h) " + says(50, "(h)") + ")")
        long = "1"
        for _ in range(7):
            long = f"(test {long} {long} {long})"
        self.no_book(f"(form so (h) (pair (h) {long}))")

    def test_least_lengths(self):
        self.no_book("(form so (a x y) (b x y) (again f x (pair (a f x) (b f x))))")
        self.reads("(form so (a x y) (b x y) (again f x (test (a f x) (b f x) 1)))",
                   ("so", (2, 2), ("again", ("test", ("hole", 0, 1, 0), ("hole", 1, 1, 0), ONE))))
        self.reads("(form so (a x y) (b x y) (again f x (say (pair (a f x) (b f x)))))",
                   ("so", (2, 2), ("again", ("say", ("pair", ("hole", 0, 1, 0), ("hole", 1, 1, 0))))))

    def test_the_first_wrong_form(self):
        good, bad = SAY_TEXT.format("ab"), "(form {} (h) (say 1))"
        self.no_book(bad.format("cd") + bad.format("ef"))
        self.no_book(good + bad.format("cd") + bad.format("ef"), 1)
        self.no_book(good + SAY_TEXT.format("cd") + bad.format("ef"), 2)
        self.no_book(bad.format("cd") + "(form ef (h) (cd (h)))")

    def test_last_of_all(self):
        bad = "(form cd (h) (say 1))"
        self.wrong(bad + "(form ef (h) (say x))", len(bad) + 18)
        self.wrong(bad + "(form ef (h) (say (h", len(bad) + 20)
        self.wrong(bad + "(form ef (h) (say 05))", len(bad) + 18)
        self.wrong(bad + "%", len(bad))


def eval_says(many, inner=ONE):
    for _ in range(many):
        inner = ("say", inner)
    return inner


class Prints(Books):
    def test_prints(self):
        self.assertEqual(print_book(()), "")
        self.assertEqual(print_book((LET,)), "(form let (h1) (h2 x1) (call (fn x1 (h2 x1)) (h1)))")
        cross = ("cross", (2, 0), ("again", ("fn", ("pair", ("pair", ("hole", 0, 2, 0), ("name", 1)), ("hole", 1)))))
        self.assertEqual(print_book((cross,)),
                         "(form cross (h1 x1 x2) (h2) (again x1 x2 (fn x3 (pair (pair (h1 x1 x3) x2) (h2)))))")
        self.assertEqual(print_book((LET, TWICE)).split("\n")[1], "(form twice (h1) (let (h1) x1 (plus x1 x1)))")

    def test_prints_read_back(self):
        for book in ((), (LET,), BOOK, WIDE):
            self.assertEqual(print_book(book), plain_print_book(book))
            self.assertEqual(read_book(print_book(book)), book)

    def test_random_books(self):
        for seed in range(200):
            book = random_book(rng(seed))
            self.assertTrue(is_book(book))
            self.assertEqual(print_book(book), plain_print_book(book))
            self.assertEqual(read_book(print_book(book)), book)

    def test_wrong_books(self):
        for value in odd_values():
            if value != ():
                self.assertRaises(InvalidBook, print_book, value)
        with self.assertRaises(InvalidBook) as caught:
            print_book((LET, LET))
        self.assertEqual(caught.exception.index, 1)
        self.assertEqual(print_book(book=(LET,)), print_book((LET,)))
        self.assertEqual(read_book(text=""), ())


class AgainstTheSecondReader(unittest.TestCase):
    def compared(self, text):
        try:
            wanted = plain_forms(text)
        except Wrong as wrong:
            with self.assertRaises(InvalidText, msg=text) as caught:
                read_book(text)
            self.assertEqual(caught.exception.place, wrong.args[0], text)
            return "wrong"
        if is_book(wanted):
            self.assertEqual(read_book(text), wanted)
            return "book"
        with self.assertRaises(InvalidBook, msg=text) as caught:
            read_book(text)
        self.assertTrue(is_book(wanted[:caught.exception.index]))
        self.assertFalse(is_book(wanted[:caught.exception.index + 1]))
        return "no book"

    def test_prints_with_tokens_changed(self):
        found = {"wrong": 0, "book": 0, "no book": 0}
        tokens = ["(", ")", "form", "so", "owna", "x1", "x2", "h1", "h2", "h9", "1", "say", "fn", "again", "pair", "-1"]
        for seed in range(500):
            row = rng(seed)
            book = random_book(row)[:row.randrange(1, 4)]
            parts = print_book(book).replace("(", " ( ").replace(")", " ) ").split()
            for _ in range(row.choice([1, 1, 2])):
                at = row.randrange(len(parts))
                parts[at:at + row.randrange(3)] = [row.choice(tokens + parts) for _ in range(row.randrange(3))]
            found[self.compared(" ".join(parts))] += 1
        self.assertGreater(min(found["wrong"], found["book"]), 20, found)

    def test_forms_that_are_no_book(self):
        found = {"wrong": 0, "book": 0, "no book": 0}
        for seed in range(300):
            row = rng(seed)
            forms, words = [], dict(CORE)
            for letter in "abc":
                names = tuple([row.randrange(3) for _ in range(row.randrange(1, 3))])
                left = list(range(len(names))) * row.choice([1, 1, 2])
                template = random_template(row, words, names, left, 0, row.randrange(2, 6))
                if template[0] in words:
                    forms.append(("own" + letter, names, template))
                    words["own" + letter] = names
            found[self.compared(plain_print_book(forms))] += 1
        self.assertGreater(min(found["book"], found["no book"]), 20, found)
        self.assertEqual(found["wrong"], 0)


if __name__ == "__main__":
    unittest.main()
