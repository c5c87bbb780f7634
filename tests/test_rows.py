"""Points 22 to 27: the code of programs, rows read as terms, and the shape of code."""

import unittest

from formstead.decoding import Frame, RowReader
from formstead.errors import BadRows, InvalidProgram, InvalidRows, TooGreat
from formstead.growing import Grower
from formstead.plain import is_program
from formstead.rows import code_of, is_code, row_places, term_of
from formstead.texts import read_source
from tests.helpers import deep_term, long_term, most_memory, odd_values, plain_depth, plain_length, rng
from tests.plain_rest import read
from tests.plain_shape import plain_fit, plain_walk
from tests.plain_steps import random_program

ONE, TWO = ("number", 1), ("number", 2)
BACK, TAIL, PLUS = (7, 0, 0), (6, 0, 0), (13, 0, 0)


def number(n):
    return (0, n, 0)


def taken(i):
    return (1, i, 0)


def test(e):
    return (11, e, 0)


def go(d):
    return (12, d, 0)


ARGUMENT, SELF = (2, 0, 0), (3, 0, 0)


def code(text):
    return code_of(read_source((), text))


class CodeOfPrograms(unittest.TestCase):
    def rows(self, text, rows, bodies=((0, 0, 0),)):
        self.assertEqual(code(text), (tuple(bodies), tuple(rows)))

    def test_numbers(self):
        for n in (0, 7, -7, 999999999, -999999999):
            self.rows(str(n), [number(n), BACK])

    def test_each_word_with_two_parts(self):
        for word, op in (("pair", 8), ("plus", 13), ("minus", 14), ("times", 15), ("put", 18)):
            self.rows(f"({word} 1 2)", [number(1), number(2), (op, 0, 0), BACK])
        self.rows("(call 1 2)", [number(1), number(2), TAIL])
        self.rows("(say (call 1 2))", [number(1), number(2), (5, 0, 0), (19, 0, 0), BACK])

    def test_each_word_with_one_part(self):
        for word, op in (("first", 9), ("second", 10), ("box", 16), ("look", 17), ("say", 19)):
            self.rows(f"({word} 1)", [number(1), (op, 0, 0), BACK])

    def test_functions(self):
        self.rows("(fn x 5)", [(4, 1, 0), BACK, number(5), BACK], [(0, 0, 0), (2, 0, 0)])
        self.rows("(fn x x)", [(4, 1, 0), BACK, ARGUMENT, BACK], [(0, 0, 0), (2, 0, 0)])
        self.rows("(again f x (pair f x))", [(4, 1, 0), BACK, SELF, ARGUMENT, (8, 0, 0), BACK],
                  [(0, 0, 0), (2, 1, 0)])
        self.rows("(again f x (call f x))", [(4, 1, 0), BACK, SELF, ARGUMENT, TAIL], [(0, 0, 0), (2, 1, 0)])

    def test_what_is_captured(self):
        self.rows("(fn x (fn y (pair x y)))",
                  [(4, 1, 0), BACK, ARGUMENT, (4, 2, 1), BACK, taken(0), ARGUMENT, (8, 0, 0), BACK],
                  [(0, 0, 0), (2, 0, 0), (5, 0, 1)])
        self.rows("(again f x (fn y (pair x f)))",
                  [(4, 1, 0), BACK, ARGUMENT, SELF, (4, 2, 2), BACK, taken(0), taken(1), (8, 0, 0), BACK],
                  [(0, 0, 0), (2, 1, 0), (6, 0, 2)])

    def test_each_once_in_the_order_in_which_it_stands(self):
        found = code("(fn a (fn b (fn c (pair (pair b a) (pair b (pair c a))))))")
        self.assertEqual(found[0], ((0, 0, 0), (2, 0, 0), (5, 0, 1), (9, 0, 2)))
        self.assertEqual(found[1][2:9], (ARGUMENT, (4, 2, 1), BACK, ARGUMENT, taken(0), (4, 3, 2), BACK))
        self.assertEqual(found[1][9:13], (taken(0), taken(1), (8, 0, 0), taken(0)))

    def test_names_two_binders_deep_beside_those_of_again(self):
        found = code("(again f x (again g y (pair (pair x g) (pair f (pair y x)))))")
        self.assertEqual(found[0], ((0, 0, 0), (2, 1, 0), (6, 1, 2)))
        self.assertEqual(found[1][2:6], (ARGUMENT, SELF, (4, 2, 2), BACK))
        self.assertEqual(found[1][6:], (taken(0), SELF, (8, 0, 0), taken(1), ARGUMENT, taken(0), (8, 0, 0), (8, 0, 0),
                                        (8, 0, 0), BACK))

    def test_boxes(self):
        self.rows("(boxes a 1 b 2 (pair b (pair a b)))",
                  [taken(1), taken(0), taken(1), (8, 0, 0), (8, 0, 0), BACK], [(0, 0, 2)])
        self.rows("(boxes a 1 b 2 c 3 (fn x (pair c (pair x a))))",
                  [taken(2), taken(0), (4, 1, 2), BACK, taken(0), ARGUMENT, taken(1), (8, 0, 0), (8, 0, 0), BACK],
                  [(0, 0, 3), (4, 0, 2)])
        self.rows("(boxes a 1 b 2 5)", [number(5), BACK], [(0, 0, 2)])

    def test_names_and_boxes_captured_together(self):
        found = code("(boxes a 1 b 2 (fn x (fn y (pair b (pair x (pair a x))))))")
        self.assertEqual(found[0], ((0, 0, 2), (4, 0, 2), (9, 0, 3)))
        # The outer one captures b and a, the inner one b, x and a.
        self.assertEqual(found[1][:9], (taken(1), taken(0), (4, 1, 2), BACK, taken(0), ARGUMENT, taken(1), (4, 2, 3),
                                        BACK))

    def test_functions_in_boxes(self):
        found = code("(boxes a (pair (fn x b) (pair 1 (fn y (fn z a)))) b (fn u 3) (pair (fn v 4) (fn w (fn q 5))))")
        # Body 0; in the boxes 1, 2, 3; in the term 4, 5; then within 2 the number 6, within 5 the number 7.
        self.assertEqual([body[1:] for body in found[0]],
                         [(0, 2), (0, 1), (0, 1), (0, 0), (0, 0), (0, 0), (0, 1), (0, 0)])
        told = [found[1][body[0]:end[0]] for body, end in zip(found[0], found[0][1:] + ((len(found[1]),),))]
        self.assertEqual(told, [
            ((4, 4, 0), (4, 5, 0), (8, 0, 0), BACK), (taken(0), BACK), (taken(0), (4, 6, 1), BACK), (number(3), BACK),
            (number(4), BACK), ((4, 7, 0), BACK), (taken(0), BACK), (number(5), BACK),
        ])

    def test_numbers_of_bodies_level_by_level(self):
        found = code("(pair (fn a (fn b 1)) (fn c (pair (fn d 2) (fn e 3))))")
        closes = [row for row in found[1] if row[0] == 4]
        self.assertEqual(closes, [(4, 1, 0), (4, 2, 0), (4, 3, 0), (4, 4, 0), (4, 5, 0)])
        self.assertEqual(found[1][found[0][3][0]], number(1))
        self.assertEqual(found[1][found[0][4][0]], number(2))

    def test_test_in_the_middle(self):
        self.rows("(say (test 1 2 3))", [number(1), test(4), number(2), go(5), number(3), (19, 0, 0), BACK])
        self.rows("(plus 9 (test 1 2 3))", [number(9), number(1), test(5), number(2), go(6), number(3), PLUS, BACK])

    def test_test_at_the_end(self):
        self.rows("(test 1 2 3)", [number(1), test(4), number(2), BACK, number(3), BACK])
        self.rows("(test 1 (call 2 3) 4)", [number(1), test(5), number(2), number(3), TAIL, number(4), BACK])
        self.rows("(test 1 2 (test 3 4 (call 5 6)))", [
            number(1), test(4), number(2), BACK, number(3), test(8), number(4), BACK, number(5), number(6), TAIL,
        ])
        self.rows("(test 1 (test 3 4 5) 2)", [
            number(1), test(8), number(3), test(6), number(4), BACK, number(5), BACK, number(2), BACK,
        ])

    def test_tests_within_tests(self):
        self.rows("(say (test (test 1 2 3) 4 (test 5 6 7)))", [
            number(1), test(4), number(2), go(5), number(3), test(8), number(4), go(13), number(5), test(12), number(6),
            go(13), number(7), (19, 0, 0), BACK,
        ])
        # What is asked is never at the end; of both others each part is.
        self.rows("(test (test 1 2 3) 4 5)", [
            number(1), test(4), number(2), go(5), number(3), test(8), number(4), BACK, number(5), BACK,
        ])
        self.rows("(test 1 (call (test 2 3 4) 5) 6)", [
            number(1), test(9), number(2), test(6), number(3), go(7), number(4), number(5), TAIL, number(6), BACK,
        ])

    def test_in_functions_rows_are_numbered_on(self):
        self.rows("(fn x (test x 1 2))", [(4, 1, 0), BACK, ARGUMENT, test(6), number(1), BACK, number(2), BACK],
                  [(0, 0, 0), (2, 0, 0)])

    def test_refused(self):
        for value in odd_values() + [((("say", ONE),), ONE), ((), ("name", 0))]:
            with self.assertRaises(InvalidProgram) as caught:
                code_of(value)
            self.assertIs(caught.exception.given, value)
        self.assertEqual(code_of(program=((), ONE)), (((0, 0, 0),), (number(1), BACK)))


class ReadAsTerms(unittest.TestCase):
    def test_back_again(self):
        for seed in range(400):
            program = random_program(rng(seed), rng(seed).randrange(2, 14))
            if not is_program(program):
                continue
            found = code_of(program)
            self.assertTrue(is_code(found))
            self.assertEqual(term_of(found), program[1])
            captured = [("at", k) for k in range(len(program[0]))]
            self.assertEqual(read(found, 0, [], None, None, captured, None), program[1])

    def test_from_any_row_on(self):
        # As the rest of a machine is told: with a stock, in the arms of tests, too.
        gone = 0
        for seed in range(200):
            program = random_program(rng(seed), rng(seed).randrange(4, 12))
            if not is_program(program):
                continue
            found = code_of(program)
            for row, (body, many) in enumerate(row_places(found)):
                stock = [("say", ("number", k)) for k in range(many)]
                captured = [("box", ("number", k)) for k in range(found[0][body][2])]
                frame = Frame(ONE, TWO, captured)
                reader = RowReader(found)
                told = Grower(reader, None).grown(reader.read_rows(row, None, stock, frame), None, 0, 1)
                self.assertEqual(told, read(found, row, stock, ONE, TWO, captured, None))
                self.assertEqual(len(stock), many)
                gone += found[1][row][0] == 12
        self.assertGreater(gone, 20)

    def test_limits_of_programs(self):
        for term in (long_term(1500), deep_term(60), long_term(1499)):
            self.assertEqual(term_of(code_of(((), term))), term)

    def test_code_that_is_of_no_program(self):
        # The first thing that is captured is used twice, the second one not at all.
        bodies = ((0, 0, 3), (5, 0, 2))
        rows = (taken(2), taken(0), (4, 1, 2), (19, 0, 0), BACK, taken(0), taken(0), (8, 0, 0), BACK)
        self.assertEqual(term_of((bodies, rows)), ("say", ("fn", ("pair", ("at", 2), ("at", 2)))))

    def test_bodies_closed_twice_or_never(self):
        bodies = ((0, 0, 0), (4, 1, 0), (7, 0, 0))
        rows = ((4, 1, 0), (4, 1, 0), (8, 0, 0), BACK, SELF, ARGUMENT, TAIL, number(1), BACK)
        again = ("again", ("call", ("name", 1), ("name", 0)))
        self.assertEqual(term_of((bodies, rows)), ("pair", again, again))

    def test_names_are_raised(self):
        bodies = ((0, 0, 1), (3, 1, 1), (8, 0, 3), (13, 1, 2))
        rows = (taken(0), (4, 1, 1), BACK, ARGUMENT, SELF, taken(0), (4, 2, 3), BACK,
                taken(1), ARGUMENT, (4, 3, 2), (19, 0, 0), BACK, taken(1), taken(0), (8, 0, 0), BACK)
        inner = ("again", ("pair", ("name", 2), ("name", 4)))
        self.assertEqual(term_of((bodies, rows)), ("again", ("fn", ("say", inner))))

    def test_tests(self):
        rows = (number(1), test(4), number(2), go(5), number(3), (19, 0, 0), BACK)
        self.assertEqual(term_of((((0, 0, 0),), rows)), ("say", ("test", ONE, TWO, ("number", 3))))

    def doubled(self, many):
        """Code in which each of so many bodies closes the next one twice."""
        bodies, rows = [], []
        for body in range(many):
            bodies.append((len(rows), 0, 0))
            rows += [(4, body + 1, 0), (4, body + 1, 0), (8, 0, 0), BACK]
        bodies.append((len(rows), 0, 0))
        return (tuple(bodies), tuple(rows + [number(1), BACK]))

    def test_too_great(self):
        # A body has 1 and twice the next one with its fn and its name.
        lengths = [1]
        for _ in range(9):
            lengths.append(5 + 2 * lengths[-1])
        for many, length in enumerate(lengths[:9]):
            found = self.doubled(many)
            self.assertTrue(is_code(found))
            if length <= 1500:
                self.assertEqual(plain_length(term_of(found)), length)
            else:
                self.assertRaises(TooGreat, term_of, found)
        # Settled without building: what would be built has thousands of millions of parts.
        found = self.doubled(30)
        self.assertLess(most_memory(lambda: self.assertRaises(TooGreat, term_of, found)), 1000000)
        self.assertRaises(TooGreat, term_of, self.doubled(3000))

    def test_just_as_long_as_may_be(self):
        rows = self.balanced(750)
        found = (((0, 0, 0),), tuple(rows + [BACK]))
        self.assertEqual(plain_length(term_of(found)), 1499)
        found = (((0, 0, 0),), tuple(rows + [(19, 0, 0), BACK]))
        self.assertEqual(plain_length(term_of(found)), 1500)
        found = (((0, 0, 0),), tuple(rows + [(19, 0, 0), (19, 0, 0), BACK]))
        self.assertRaises(TooGreat, term_of, found)

    def test_functions_just_as_long_as_may_be(self):
        inner = tuple(self.balanced(748) + [(19, 0, 0)])
        self.assertEqual(len(inner), 1496)
        for kind, says, length in ((0, 1, 1499), (0, 2, 1500), (0, 3, 1501), (1, 0, 1499), (1, 1, 1500), (1, 2, 1501)):
            rows = ((4, 1, 0), BACK) + inner + ((19, 0, 0),) * says + (BACK,)
            found = (((0, 0, 0), (2, kind, 0)), rows)
            if length <= 1500:
                self.assertEqual(plain_length(term_of(found)), length)
            else:
                self.assertRaises(TooGreat, term_of, found)

    def balanced(self, leaves):
        if leaves == 1:
            return [number(1)]
        return self.balanced(leaves // 2) + self.balanced(leaves - leaves // 2) + [PLUS]

    def test_just_as_deep_as_may_be(self):
        for says, fits in ((58, True), (59, True), (60, False)):
            found = (((0, 0, 0),), tuple([number(1)] + [(19, 0, 0)] * says + [BACK]))
            if fits:
                self.assertEqual(plain_depth(term_of(found)), says + 1)
            else:
                self.assertRaises(TooGreat, term_of, found)
        # The deepest part counts, wherever it stands.
        for says, fits in ((58, True), (59, False)):
            deep, flat = [number(1)] + [(19, 0, 0)] * says, [number(2)]
            asked = [number(0), test(4 + says), *deep, go(5 + says), *flat]
            other = [number(0), test(4), *flat, go(5 + says), *deep]
            for rows in (deep + flat + [PLUS, BACK], flat + deep + [PLUS, BACK], asked + [BACK], other + [BACK],
                         deep + [test(says + 4), *flat, BACK, *flat, BACK]):
                found = (((0, 0, 0),), tuple(rows))
                if fits:
                    self.assertEqual(plain_depth(term_of(found)), 60)
                else:
                    self.assertRaises(TooGreat, term_of, found)
        for kind, functions in ((0, 59), (1, 59), (0, 60), (1, 60), (0, 4000)):
            bodies = tuple([(2 * k, kind if k else 0, 0) for k in range(functions + 1)])
            rows = [row for k in range(functions) for row in ((4, k + 1, 0), BACK)] + [number(1), BACK]
            found = (bodies, tuple(rows))
            if functions == 59:
                self.assertEqual(plain_depth(term_of(found)), 60)
                self.assertEqual(plain_length(term_of(found)), 59 * (2 + kind) + 1)
            else:
                self.assertRaises(TooGreat, term_of, found)

    def test_by_name(self):
        found = (((0, 0, 0),), (number(1), BACK))
        self.assertEqual([term_of(code=found), row_places(code=found), is_code(value=found)],
                         [ONE, ((0, 0), (0, 1)), True])


class Bodies(unittest.TestCase):
    def refused(self, value):
        self.assertIs(is_code(value), False)
        for call in (row_places, term_of):
            with self.assertRaises(InvalidRows) as caught:
                call(value)
            self.assertIs(caught.exception.given, value)

    def test_no_code_at_all(self):
        row = (number(1), BACK)
        for value in odd_values():
            self.refused(value)
            self.refused((((0, 0, 0),), value))
            self.refused((value, row))
            self.refused((((0, 0, 0),), (value,)))
            self.refused(((value,), row))
        for value in ((((0, 0, 0),), row, ()), (((0, 0, 0),),), [((0, 0, 0),), row], (((0, 0, 0),), list(row)),
                      ([(0, 0, 0)], row), (([0, 0, 0],), row), (((0, 0, 0),), ([0, 1, 0], BACK)),
                      (((0, 0),), row), (((0, 0, 0, 0),), row), (((0, 0, 0),), ((0, 1), BACK)),
                      (((0, 0, False),), row), (((0, False, 0),), row), (((0, 0, 0),), ((0, True, 0), BACK)),
                      (((0, 0, 0),), ((0, 1, False), BACK)), (((0, 0, 0),), ((False, 1, 0), BACK)),
                      (((0, 0, "0"),), row), (((0, 0, None),), row)):
            self.refused(value)

    def test_bodies_that_do_not_fit(self):
        rows = (number(1), BACK, number(1), BACK, number(1), BACK)
        one = (0, 0, 0)
        for bodies in ((), ((1, 0, 0),), ((-1, 0, 0),), ((0, 1, 0),), ((0, 2, 0),), ((0, 0, -1),), ((0, 0, 1501),),
                       (one, (0, 0, 0)), (one, (-2, 0, 0)), (one, (2, 0, 0), (2, 0, 0)), (one, (4, 0, 0), (2, 0, 0)),
                       (one, (6, 0, 0)), (one, (7, 0, 0)), (one, (2, 2, 0)), (one, (2, -1, 0)), (one, (2, 0, 1501)),
                       (one, (2, 0, -1)), (one, (2, 1, 10 ** 399))):
            self.refused((bodies, rows))
        self.refused((((0, 0, 0),), ()))
        for bodies in ((one, (2, 0, 1500), (4, 1, 0)), ((0, 0, 1500), (2, 1, 1500), (4, 0, 1))):
            self.assertTrue(is_code((bodies, rows)))

    def test_bodies_come_ahead_of_the_shape(self):
        self.refused((((0, 0, 0), (5, 0, 0)), (BACK, BACK)))


class Shapes(unittest.TestCase):
    def breaks(self, rows, row, bodies=((0, 0, 0),)):
        found = (tuple(bodies), tuple(rows))
        self.assertEqual(plain_walk(found)[1], row)
        for call in (row_places, term_of):
            with self.assertRaises(BadRows) as caught:
                call(found)
            self.assertEqual(caught.exception.index, row)
        self.assertIs(is_code(found), False)

    def holds(self, rows, bodies=((0, 0, 0),), places=None):
        found = (tuple(bodies), tuple(rows))
        self.assertIs(is_code(found), True)
        self.assertEqual(row_places(found), tuple(plain_walk(found)[0]))
        if places is not None:
            self.assertEqual([place[1] for place in row_places(found)], places)

    def test_numbers(self):
        for n in (999999999, -999999999, 0):
            self.holds([number(n), BACK])
        for n in (1000000000, -1000000000, 10 ** 399):
            self.breaks([number(n), BACK], 0)
        self.breaks([(0, 1, 1), BACK], 0)
        self.breaks([number(1), (0, 1, -1), (8, 0, 0), BACK], 1)

    def test_no_rows(self):
        for op in (20, 21, -1, 10 ** 399):
            self.breaks([number(1), (op, 0, 0), BACK], 1)
            self.breaks([number(1), (op, 0, 0)], 1)

    def test_taken(self):
        self.holds([taken(0), BACK], [(0, 0, 1)])
        self.holds([taken(1499), BACK], [(0, 0, 1500)])
        self.breaks([taken(0), BACK], 0)
        self.breaks([taken(1), BACK], 0, [(0, 0, 1)])
        self.breaks([taken(-1), BACK], 0, [(0, 0, 1)])
        self.breaks([(1, 0, 1), BACK], 0, [(0, 0, 1)])

    def test_argument_and_self(self):
        two = [(0, 0, 0), (2, 0, 0)]
        self.holds([number(1), BACK, ARGUMENT, BACK], two)
        self.breaks([number(1), BACK, SELF, BACK], 2, two)
        self.holds([number(1), BACK, SELF, BACK], [(0, 0, 0), (2, 1, 0)])
        self.holds([number(1), BACK, ARGUMENT, BACK], [(0, 0, 0), (2, 1, 0)])
        self.breaks([ARGUMENT, BACK], 0)
        self.breaks([SELF, BACK], 0)
        for row in ((2, 1, 0), (2, 0, 1), (3, 1, 0), (3, 0, 1)):
            self.breaks([number(1), BACK, row, BACK], 2, [(0, 0, 0), (2, 1, 0)])

    def test_words_with_two_parts(self):
        for op in (5, 8, 13, 14, 15, 18):
            self.holds([number(1), number(2), (op, 0, 0), BACK], places=[0, 1, 2, 1])
            self.breaks([number(1), (op, 0, 0), BACK], 1)
            self.breaks([(op, 0, 0), BACK], 0)
            self.breaks([number(1), number(2), (op, 1, 0), BACK], 2)
            self.breaks([number(1), number(2), (op, 0, 1), BACK], 2)

    def test_words_with_one_part(self):
        for op in (9, 10, 16, 17, 19):
            self.holds([number(1), (op, 0, 0), BACK], places=[0, 1, 1])
            self.breaks([(op, 0, 0), BACK], 0)
            self.breaks([number(1), (op, 1, 0), BACK], 1)
            self.breaks([number(1), (op, 0, 1), BACK], 1)

    def test_operands_of_an_arm_alone(self):
        self.breaks([number(9), number(1), test(6), number(2), PLUS, go(7), number(3), PLUS, BACK], 4)
        self.breaks([number(9), number(1), test(5), number(2), go(8), number(3), PLUS, number(4), BACK], 6)

    def test_the_end_of_a_body(self):
        self.breaks([number(1)], 0)
        self.breaks([number(1), number(2)], 1)
        self.breaks([number(1), BACK, number(2), BACK], 1)
        self.breaks([BACK], 0)
        self.breaks([TAIL], 0)
        self.breaks([number(1), TAIL], 1)
        self.breaks([number(1), number(2), BACK], 2)
        self.breaks([number(1), number(2), number(3), TAIL], 3)
        self.holds([number(1), number(2), TAIL], places=[0, 1, 2])
        for row in ((7, 1, 0), (7, 0, 1)):
            self.breaks([number(1), row], 1)
        for row in ((6, 1, 0), (6, 0, 1)):
            self.breaks([number(1), number(2), row], 2)
        self.breaks([number(1), BACK, number(2)], 2, [(0, 0, 0), (2, 0, 0)])

    def test_close(self):
        two = [(0, 0, 3), (4, 0, 2)]
        body = [number(7), BACK]
        self.holds([taken(0), taken(1), (4, 1, 2), BACK] + body, two, places=[0, 1, 2, 1, 0, 1])
        for rows, row in (
            ([taken(0), taken(1), (4, 1, 1), BACK], 2), ([taken(0), taken(1), (4, 0, 2), BACK], 2),
            ([taken(0), taken(1), (4, 2, 2), BACK], 2), ([taken(0), taken(1), (4, -1, 2), BACK], 2),
            ([taken(0), taken(1), (4, 1, 3), BACK], 2), ([taken(0), number(1), (4, 1, 2), BACK], 2),
            ([number(1), taken(0), (4, 1, 2), BACK], 2), ([taken(0), (19, 0, 0), (4, 1, 2), BACK], 2),
            ([number(1), (19, 0, 0), (4, 1, 2), BACK], 2),
        ):
            self.breaks(rows + body, row, two)
        self.breaks([taken(0), (4, 1, 2), (8, 0, 0), BACK, number(7), BACK], 1, two)
        self.holds([number(1), taken(0), taken(1), (4, 1, 2), (8, 0, 0), BACK] + body, [(0, 0, 3), (6, 0, 2)])

    def test_close_of_a_body_above_alone(self):
        bodies = [(0, 0, 0), (2, 0, 0), (4, 0, 0)]
        self.holds([(4, 1, 0), BACK, (4, 2, 0), BACK, number(1), BACK], bodies)
        self.breaks([(4, 1, 0), BACK, (4, 1, 0), BACK, number(1), BACK], 2, bodies)
        self.breaks([(4, 1, 0), BACK, (4, 2, 0), BACK, (4, 1, 0), BACK], 4, bodies)
        self.breaks([(4, 1, 0), BACK, (4, 2, 0), BACK, (4, 3, 0), BACK], 4, bodies)
        self.holds([(4, 2, 0), BACK, (4, 2, 0), BACK, number(1), BACK], bodies)

    def test_close_ahead_of_which_too_little_stands(self):
        # What is captured is looked for in the body's own rows alone, and so never behind the last row of all.
        self.breaks([(4, 1, 1), BACK, number(1), ARGUMENT], 0, [(0, 0, 0), (2, 0, 1)])
        self.breaks([(4, 1, 1500), BACK, number(1), BACK], 0, [(0, 0, 0), (2, 0, 1500)])
        self.breaks([number(1), BACK, ARGUMENT, (4, 2, 2), BACK, number(1), BACK], 3,
                    [(0, 0, 0), (2, 0, 0), (5, 0, 2)])

    def test_close_with_argument_and_self(self):
        bodies = [(0, 0, 0), (2, 1, 0), (6, 0, 2)]
        self.holds([(4, 1, 0), BACK, SELF, ARGUMENT, (4, 2, 2), BACK, taken(1), BACK], bodies)

    def test_close_with_an_arm_left_ahead(self):
        # The test leaves its value, told by a taken, as the first of both that are captured.
        inside = [number(0), test(4), taken(0), go(5), taken(1)]
        body = [number(7), BACK]
        self.holds(inside + [taken(2), (4, 1, 1), (8, 0, 0), BACK] + body, [(0, 0, 3), (9, 0, 1)])
        self.breaks(inside + [(4, 1, 1), BACK] + body, 5, [(0, 0, 3), (7, 0, 1)])
        # An arm left ahead of the second row that is captured: ahead of row 5, where taken 2 stands.
        self.breaks(inside + [taken(2), (4, 1, 2), BACK] + body, 6, [(0, 0, 3), (8, 0, 2)])
        # Ahead of the first one of them an arm may be left.
        self.holds(inside + [taken(2), taken(0), (4, 1, 2), (8, 0, 0), BACK] + body, [(0, 0, 3), (10, 0, 2)])
        # Where nothing is captured an arm may be left right ahead.
        self.holds(inside + [(4, 1, 0), (8, 0, 0), BACK] + body, [(0, 0, 3), (8, 0, 0)])

    def test_test_in_the_middle(self):
        self.holds([number(1), test(4), number(2), go(5), number(3), BACK], places=[0, 1, 0, 1, 0, 1])
        self.holds([number(9), number(1), test(5), number(2), go(6), number(3), PLUS, BACK],
                   places=[0, 1, 2, 1, 2, 1, 2, 1])
        self.breaks([test(3), number(2), go(4), number(3), BACK], 0)
        self.breaks([number(1), (11, 4, 1), number(2), go(5), number(3), BACK], 1)
        # The first arm is empty, or the go does not lead behind the second arm.
        self.breaks([number(1), test(3), go(4), number(3), BACK], 1)
        self.breaks([number(1), test(4), number(2), go(4), number(3), BACK], 1)
        self.breaks([number(1), test(4), number(2), go(3), number(3), BACK], 1)
        # Up to the limit, which without arms is the last row.
        self.breaks([number(1), test(4), number(2), go(6), number(3), BACK], 1)
        self.breaks([number(1), test(4), number(2), go(10 ** 399), number(3), BACK], 1)
        # Where the test leads.
        for e in (0, 1, 2, -1, 6, 7, 10 ** 399):
            self.breaks([number(1), test(e), number(2), go(5), number(3), BACK], 1)

    def test_operands_of_a_test(self):
        self.breaks([number(9), number(1), test(6), test(6), number(2), go(7), number(3), PLUS, BACK], 3)
        self.breaks([number(9), number(0), test(8), test(7), number(1), go(8), number(2), go(9), number(3), PLUS, BACK],
                    3)

    def test_what_a_go_tells_is_looked_at_at_the_go(self):
        self.breaks([number(1), test(4), number(2), (12, 5, 1), number(3), BACK], 3)
        self.breaks([number(1), test(4), number(2), (12, 5, -1), number(3), BACK], 3)

    def test_a_go_that_no_test_tells(self):
        self.breaks([number(1), go(2), BACK], 1)
        self.breaks([number(1), test(5), number(2), go(4), go(6), number(3), BACK], 3)
        self.breaks([number(1), test(5), number(2), go(6), go(6), number(3), BACK], 3)
        self.breaks([number(1), test(4), number(2), go(5), go(5), BACK], 4)
        # B of a go to which no test leads is looked at by none but the go itself.
        self.breaks([number(1), (12, 2, 5), BACK], 1)

    def test_a_go_with_another_row_behind_it(self):
        # In the second arm of an inner test stands a go, which no test tells.
        self.breaks([number(1), test(4), number(2), go(6), go(6), number(3), BACK], 4)

    def test_operands_at_a_go(self):
        self.breaks([number(1), test(5), number(2), number(3), go(6), number(4), BACK], 4)
        self.breaks([number(9), number(1), test(5), (19, 0, 0), go(6), number(3), PLUS, BACK], 3)

    def test_a_second_arm_at_its_limit(self):
        self.holds([number(1), test(4), number(2), go(7), number(3), number(4), PLUS, BACK])
        self.breaks([number(1), test(4), number(2), go(6), number(3), number(4), PLUS, BACK], 6)
        self.breaks([number(9), number(1), test(5), number(2), go(7), number(3), number(4), PLUS, BACK], 7)
        # Two second arms with one limit are left ahead of one row.
        self.holds([number(1), test(4), number(2), go(9), number(3), test(8), number(4), go(9), number(5), BACK])
        self.breaks([number(1), test(4), number(2), go(9), number(3), test(8), number(4), go(10), number(5), number(6),
                     BACK], 5)

    def test_back_within_arms(self):
        self.breaks([number(1), test(4), number(2), go(6), number(3), BACK, BACK], 5)
        self.breaks([number(1), test(5), number(2), BACK, go(7), number(3), number(4), BACK], 3)

    def test_test_at_the_end(self):
        self.holds([number(1), test(4), number(2), BACK, number(3), BACK], places=[0, 1, 0, 1, 0, 1])
        self.holds([number(1), test(5), number(2), number(3), TAIL, number(4), BACK])
        self.holds([number(1), test(4), number(2), BACK, number(3), test(8), number(4), BACK, number(5), BACK])
        self.holds([number(1), test(8), number(2), test(6), number(4), BACK, number(5), BACK, number(3), BACK])
        # Operands beneath it.
        self.breaks([number(9), number(1), test(5), number(2), BACK, number(3), BACK], 2)
        # Within an arm that is not at the end.
        self.breaks([number(1), test(8), number(2), test(6), number(3), BACK, number(4), go(10), number(5), (19, 0, 0),
                     BACK], 3)
        # Where it leads.
        for e in (0, 1, 2, 6, 7):
            self.breaks([number(1), test(e), number(2), BACK, number(3), BACK], 1)

    def test_limits_of_arms_at_the_end(self):
        # Back ahead of the limit, and behind it.
        self.breaks([number(1), test(5), number(2), BACK, number(8), number(3), BACK], 3)
        self.breaks([number(1), test(4), number(2), number(8), BACK, BACK], 4)
        self.breaks([number(1), test(4), number(2), (19, 0, 0), number(3), BACK], 5)
        # A test in the first arm that leads beyond it.
        self.breaks([number(1), test(6), number(2), test(8), number(3), BACK, number(4), BACK, number(5), BACK], 3)
        # The second arm goes on to the last row.
        self.breaks([number(1), test(4), number(2), BACK, number(3), BACK, number(4), BACK], 5)
        self.breaks([number(1), test(4), number(2), BACK, number(3), number(4), BACK], 6)
        self.breaks([number(1), test(4), number(2), BACK, number(3), number(4)], 5)

    def test_a_test_in_the_middle_within_one_at_the_end(self):
        self.holds([number(1), test(8), number(2), test(6), number(3), go(7), number(4), BACK, number(5), BACK])
        # Its go leads beyond the limit of the first arm.
        self.breaks([number(1), test(8), number(2), test(6), number(3), go(8), number(4), BACK, number(5), BACK], 3)

    def chain(self, many):
        """Rows of so many tests, each in the second arm of the one around it."""
        rows = []
        for _ in range(many):
            rows += [number(0), test(len(rows) + 4), number(1), BACK]
        return rows + [number(2), BACK]

    def inward(self, many):
        """Rows of so many tests at the end, each in the first arm of the one around it."""
        if many == 0:
            return [number(2), BACK]
        inner = [row if row[0] != 11 else test(row[1] + 2) for row in self.inward(many - 1)]
        return [number(0), test(2 + len(inner))] + inner + [number(1), BACK]

    def middle(self, many):
        """Rows of so many tests that are not at the end, each in the first arm of the one around it."""
        if many == 0:
            return [number(2)]
        inner = [row if row[0] not in (11, 12) else (row[0], row[1] + 2, 0) for row in self.middle(many - 1)]
        end = 2 + len(inner)
        return [number(0), test(end + 1)] + inner + [go(end + 2), number(1)]

    def test_sixty_arms(self):
        for rows in (self.chain(60), self.inward(60), self.middle(60) + [BACK]):
            self.holds(rows)
        self.breaks(self.chain(61), 4 * 60 + 1)
        self.breaks(self.inward(61), 2 * 60 + 1)
        self.breaks(self.middle(61) + [BACK], 2 * 60 + 1)

    def test_the_first_wrong_body_is_told(self):
        bodies = [(0, 0, 0), (2, 0, 0), (4, 0, 0)]
        good = [number(1), BACK]
        self.breaks(good + [BACK, BACK] + [BACK, BACK], 2, bodies)
        self.breaks(good + good + [BACK, BACK], 4, bodies)
        self.breaks([number(1), number(1)] + [BACK, BACK] + good, 1, bodies)

    def test_arms_do_not_reach_into_the_next_body(self):
        self.breaks([number(1), test(4), number(2), BACK, number(3), BACK], 1, [(0, 0, 0), (4, 0, 0)])
        self.breaks([number(1), test(4), number(2), go(5), number(3), BACK], 1, [(0, 0, 0), (5, 0, 0)])

    def test_code_with_rows_changed(self):
        found = {True: 0, False: 0}
        for seed in range(1500):
            row = rng(seed)
            program = random_program(row, row.randrange(2, 9))
            if not is_program(program):
                continue
            bodies, rows = [list(part) for part in code_of(program)]
            for _ in range(row.randrange(3)):
                part = row.choice([rows, rows, rows, bodies])
                at = row.randrange(len(part))
                kind = row.randrange(5)
                if kind == 0 and len(part) > 1:
                    del part[at]
                elif kind == 1:
                    part.insert(at, row.choice(part))
                else:
                    triple = list(part[at])
                    which = row.randrange(3)
                    triple[which] = row.choice([0, 1, 2, triple[which] + 1, triple[which] - 1, row.randrange(20)])
                    part[at] = tuple(triple)
            value = (tuple(bodies), tuple(rows))
            if not plain_fit(bodies, rows):
                self.assertRaises(InvalidRows, row_places, value)
                continue
            places, broken = plain_walk(value)
            found[broken is None] += 1
            if broken is None:
                self.assertEqual(row_places(value), tuple(places))
                try:
                    term = term_of(value)
                except TooGreat:
                    continue
                captured = [("at", k) for k in range(bodies[0][2])]
                self.assertEqual(term, read(value, 0, [], None, None, captured, None))
            else:
                self.breaks(rows, broken, bodies)
        self.assertGreater(min(found.values()), 200, found)


if __name__ == "__main__":
    unittest.main()
