"""Points 2, 45 and 46: the rest of sound memories, what keeps it and what makes it the plain next one, its limits."""

import unittest

from formstead.collector import begun_great, begun_small, collected, fetched, moved
from formstead.errors import InvalidBook, InvalidMemory, NoRoom, NotNow, NotThere, TooGreat
from formstead.machine import begun, makes_step, outcome, stepped
from formstead.memory import frames, led_to, objects, read_register
from formstead.plain import go_on, is_program, next_of, outcome_of, tidied
from formstead.rest import are_at_one, rest, rest_text
from formstead.runs import run
from formstead.sound import first_wrong
from formstead.texts import print_source, read_source
from tests.helpers import BOOK, LET, TWICE, deep_term, long_term, odd_values, plain_depth, plain_length, rng
from tests.machines import (
    BUSY, ROOMY, SMALL_SIZES, a, begin, m, n, random_machine, random_sizes, source, with_free_words_changed, with_words,
)
from tests.plain_rest import plain_rest, registers
from tests.wild import wild_memory

PAIR = 71
LARGE = (200, 40, 60, 400, 9)


def text_at(text, steps, sizes=ROOMY, book=()):
    return rest_text(book, run(begin(text, sizes), steps)[0])


def rest_or_none(memory):
    """The rest; None if it is too great."""
    try:
        return rest(memory)
    except TooGreat:
        return None


class ValueWriter:
    """Values written behind the last object of the half in use; like values of one length stand there once."""

    def __init__(self, memory):
        self.words = list(memory)
        self.old = read_register(memory, "old")
        self.known = {}

    def object(self, words):
        self.words[self.old:self.old + len(words)] = words
        self.old += len(words)
        self.words[5] = m(self.old)
        return a(self.old - len(words))

    def of_length(self, length):
        """The word of a value of an odd length, all of pairs."""
        if length == 1:
            return n(7)
        if length not in self.known:
            one = (length - 1) // 2
            one += 1 - one % 2
            fields = [self.of_length(one), self.of_length(length - 1 - one)]
            self.known[length] = self.object([PAIR] + fields)
        return self.known[length]

    def of_depth(self, depth):
        word = n(7)
        for _ in range(depth - 1):
            word = self.object([PAIR, word, n(0)])
        return word

    def memory(self, words=None):
        return with_words(self.words, words or {})


def ended_with(make):
    """A memory in status 1 whose value is what MAKE writes."""
    ended = run(begin("5", ROOMY), 9)[0]
    writer = ValueWriter(ended)
    word = make(writer)
    return writer.memory({read_register(ended, "stack"): word})


class EachStatus(unittest.TestCase):
    def test_runs(self):
        wanted = ["(pair (plus 1 2) (say 3))"] * 3 + ["(pair 3 (say 3))"] * 2 + ["(pair 3 3)"] * 9
        found = [text_at("(pair (plus 1 2) (say 3))", steps) for steps in range(len(wanted))]
        self.assertEqual(found, wanted)

    def test_ended(self):
        for text in ("5", "(pair 1 (pair 2 3))", "(fn x1 x1)", "(again x1 x2 (call x1 x2))", "(boxes b1 5 b1)"):
            memory = run(begin(text, ROOMY), 99)[0]
            self.assertEqual(outcome(memory), "ended")
            self.assertEqual(rest(memory), source(text))
            self.assertEqual(rest_text((), memory), text)

    def test_faults(self):
        for text, name in (("(pair (say 1) (first 2))", "kind"), ("(pair (say 1) (plus 999999999 (say 1)))", "great")):
            memory = run(begin(text, ROOMY), 99)[0]
            self.assertEqual(outcome(memory), name)
            self.assertEqual(rest(memory), read_source((), text.replace("(say 1)", "1")))
            self.assertEqual(outcome_of(rest(memory)), name)

    def test_out_of_room_nothing_is_lost(self):
        for text in BUSY:
            memory = run(begin(text, SMALL_SIZES), 99999)[0]
            whole, said = run(begin(text, LARGE), 99999)
            begun_said = run(begin(text, SMALL_SIZES), 99999)[1]
            if outcome(memory) == "room":
                again, more = run(begun(rest(memory), LARGE), 99999)
                self.assertEqual(begun_said + more, said)
                self.assertEqual(rest(again), rest(whole))
        self.assertEqual(outcome(run(begin(BUSY[1], SMALL_SIZES), 99999)[0]), "room")


class WhatIsRead(unittest.TestCase):
    def test_begun(self):
        for text in ("5", "(boxes b 1 c 2 (pair c 1))", "(boxes b c c b d (fn x (look c)) (call d 3))"):
            self.assertEqual(rest(begin(text, ROOMY)), tidied(source(text)))
        self.assertEqual(text_at("(boxes b 1 c 2 (pair c 1))", 0), "(boxes b1 2 (pair b1 1))")

    def test_callers(self):
        text = "(plus 1 (times 2 (call (fn x (minus x (call (fn y (plus y x)) 5))) 7)))"
        told = [text_at(text, steps) for steps in range(20)]
        self.assertIn("(plus 1 (times 2 (minus 7 (call (fn x1 (plus x1 7)) 5))))", told)
        self.assertIn("(plus 1 (times 2 (minus 7 (plus 5 7))))", told)
        self.assertIn("(plus 1 (times 2 -5))", told)
        memory = run(begin(text, ROOMY), 11)[0]
        self.assertEqual(len(frames(memory)), 3)

    def test_amid_tests_in_the_middle(self):
        text = "(plus (test (say 0) (plus 1 (say 2)) (say 4)) (test 1 5 (times (say 6) 7)))"
        for steps, wanted in (
                (2, "(plus (test 0 (plus 1 (say 2)) (say 4)) (test 1 5 (times (say 6) 7)))"),
                (3, "(plus (plus 1 (say 2)) (test 1 5 (times (say 6) 7)))"),
                (6, "(plus (plus 1 2) (test 1 5 (times (say 6) 7)))"),
                (7, "(plus 3 (test 1 5 (times (say 6) 7)))"), (8, "(plus 3 (test 1 5 (times (say 6) 7)))"),
                (10, "(plus 3 (times (say 6) 7))"), (12, "(plus 3 (times 6 7))"), (14, "(plus 3 42)"), (16, "45")):
            self.assertEqual(text_at(text, steps), wanted)

    def test_amid_tests_at_the_end(self):
        text = "(test (say 0) (test (say 1) 2 (say 3)) (call (fn x x) 4))"
        for steps, wanted in (
                (0, text.replace("fn x x", "fn x1 x1")),
                (2, text.replace("fn x x", "fn x1 x1").replace("(say 0)", "0")), (3, "(test (say 1) 2 (say 3))"),
                (5, "(test 1 2 (say 3))"), (6, "(say 3)"), (8, "3"), (9, "3")):
            self.assertEqual(text_at(text, steps), wanted)
        text = "(test 1 2 (call (fn x (plus x x)) 4))"
        self.assertEqual(text_at(text, 2), "(call (fn x1 (plus x1 x1)) 4)")

    def test_amid_both_collections(self):
        text = "(boxes b 1 (pair (pair b 2) (pair (put b (pair 3 b)) (say 4))))"
        memory = run(begin(text, (20, 4, 20, 100, 1)), 9)[0]
        wanted = rest(memory)
        self.assertEqual(print_source((), wanted),
                         "(boxes b1 (pair 3 b1) (pair (pair b1 2) (pair (pair 3 b1) (say 4))))")
        here = begun_small(memory)
        for _ in range(40):
            self.assertEqual(rest(here), wanted)
            if not read_register(here, "small"):
                break
            here = stepped(here)[0]
        here = begun_great(here)
        for _ in range(40):
            if makes_step(here):
                break
            self.assertEqual(rest(here), wanted)
            here = stepped(here)[0]
        self.assertTrue(read_register(here, "great") or makes_step(here))

    def test_boxes_in_rings_and_functions_in_boxes(self):
        text = "(boxes b1 (pair b2 (fn x1 (look b1))) b2 (again x1 x2 (put b3 x2)) b3 b1 (pair b1 b3))"
        memory = begin(text, ROOMY)
        self.assertEqual(rest(memory), tidied(source(text)))
        behind = run(memory, 99)[0]
        self.assertEqual(outcome(behind), "ended")
        # b1 is met first, then b3, then what b1 holds: b2.
        self.assertEqual(rest_text((), behind), "(boxes b1 (pair b3 (fn x1 (look b1))) b2 b1 b3 (again x1 x2 "
                                                "(put b2 x2)) (pair b1 b2))")

    def test_boxes_that_are_met_by_no_way(self):
        text = "(boxes a 5 b (pair a c) c 6 d 7 (test (look a) b (put d c)))"
        self.assertEqual(text_at(text, 0), "(boxes b1 5 b2 (pair b1 b4) b3 7 b4 6 (test (look b1) b2 (put b3 b4)))")
        self.assertEqual(text_at(text, 3), "(boxes b1 7 b2 6 (put b1 b2))")
        self.assertEqual(text_at(text, 7), "(boxes b1 6 b1)")

    def test_functions_with_what_they_captured(self):
        text = "(boxes b 1 (call (fn x (call (fn y (again f z (pair (pair x y) (pair b (call f z))))) (pair 5 b))) 4))"
        wanted = "(boxes b1 1 (again x1 x2 (pair (pair 4 (pair 5 b1)) (pair b1 (call x1 x2)))))"
        self.assertEqual(text_at(text, 99), wanted)

    def test_a_closure_of_the_first_body(self):
        # No row makes one, but it may stand in a field: its part is the program's term, whose boxes it captured.
        memory = begin("(boxes b 5 (plus (look b) 1))", ROOMY)
        told = registers(memory)
        held = with_words(memory, {told["half"] + 1: a(told["half"] + 2)})
        self.assertIsNone(first_wrong(held))
        self.assertEqual(rest_text((), held), "(boxes b1 (fn x1 (plus (look b1) 1)) (plus (look b1) 1))")

    def test_a_function_of_again_at_the_bottom(self):
        memory = run(begin("(call (again f x (pair f x)) 3)", ROOMY), 3)[0]
        self.assertEqual(len(frames(memory)), 1)
        self.assertEqual(rest_text((), memory), "(pair (again x1 x2 (pair x1 x2)) 3)")


class WhatStepsDoToIt(unittest.TestCase):
    def follow(self, memory, steps):
        """Each step keeps the rest, or makes it the plain next one and says the same."""
        here, made = rest(memory), 0
        for _ in range(steps):
            makes = makes_step(memory)
            memory, said = stepped(memory)
            if makes:
                told, here, wanted = next_of(here)
                self.assertEqual((told, said), ("step", wanted))
                made += 1
            else:
                self.assertEqual(said, ())
            self.assertEqual(rest(memory), here)
        wanted = {"ended": ("end",), "kind": ("kind",), "great": ("great",)}
        self.assertIn(outcome_of(here), wanted.get(outcome(memory), ("step", "end", "kind", "great")))
        return made

    def test_machines(self):
        made = 0
        for seed in range(150):
            row = rng(seed)
            memory = random_machine(row)[1]
            if memory is not None:
                try:
                    made += self.follow(run(memory, row.randrange(100))[0], 60)
                except TooGreat:
                    pass
        self.assertGreater(made, 500)

    def test_wild_memories(self):
        made = 0
        for seed in range(1200):
            memory = wild_memory(rng(seed))
            if memory is not None:
                try:
                    made += self.follow(memory, 25)
                except TooGreat:
                    pass
        self.assertGreater(made, 100)

    def test_against_a_second_reading(self):
        for seed in range(1000):
            row = rng(seed)
            memory = wild_memory(row) if seed % 4 else random_machine(row)[1]
            if memory is None:
                continue
            if seed % 2 == 0:
                memory = run(memory, row.randrange(60))[0]
            wanted = plain_rest(memory)
            if is_program(wanted):
                self.assertEqual(rest(memory), wanted)
                self.assertEqual(tidied(wanted), wanted)
                self.assertEqual(rest(with_free_words_changed(row, memory)), wanted)
            else:
                self.assertRaises(TooGreat, rest, memory)

    def test_collectors_keep_it(self):
        for seed in range(300):
            memory = wild_memory(rng(seed))
            if memory is None:
                continue
            wanted = rest_or_none(memory)
            for begin_one in (begun_small, begun_great):
                try:
                    here = begin_one(memory)
                except (NotNow, NoRoom):
                    continue
                self.assertEqual(rest_or_none(here), wanted)
                for name in ("nursery", "other"):
                    for place, _, _ in objects(here, name):
                        try:
                            self.assertEqual(rest_or_none(moved(here, place)[0]), wanted)
                        except NotThere:
                            pass
                for _, _, operands in frames(here):
                    for word in operands:
                        self.assertEqual(rest_or_none(fetched(here, word)[0]), wanted)
            if outcome(memory) != "room" and collected(memory) is not None:
                self.assertEqual(rest_or_none(collected(memory)), wanted)

    def test_begun_anew_it_goes_on_the_same(self):
        gone = 0
        for seed in range(200):
            row = rng(seed)
            program, memory = random_machine(row)
            if memory is None:
                continue
            memory, said = run(memory, row.randrange(200))
            try:
                steps, there, plain = go_on(program, 1000)
                again, more = run(begun(rest(memory), random_sizes(row)), 20000)
                self.assertEqual(plain[:len(said)], said)
                if steps < 1000 and outcome(again) != "room":
                    self.assertEqual(rest(again), there)
                    self.assertEqual(said + more, plain)
                    gone += 1
                elif outcome(again) == "room":
                    self.assertEqual(go_on(rest(again), 1000)[1:], (there, plain[len(said + more):]))
            except (TooGreat, NoRoom):
                pass
        self.assertGreater(gone, 50)


class Limits(unittest.TestCase):
    def check(self, memory, length, depth):
        self.assertIsNone(first_wrong(memory))
        if length > 1500 or depth > 60:
            self.assertRaises(TooGreat, rest, memory)
            self.assertRaises(TooGreat, rest_text, (), memory)
            self.assertRaises(TooGreat, are_at_one, memory, begin("5"))
            self.assertRaises(TooGreat, are_at_one, begin("5"), memory)
            return
        boxes, term = rest(memory)
        self.assertEqual(sum(plain_length(part) for part in (*boxes, term)), length)
        self.assertEqual(max(plain_depth(part) for part in (*boxes, term)), depth)

    def test_lengths(self):
        for length in (1, 1497, 1499, 1501, 1503, 10 ** 6 + 1, 10 ** 20 + 1):
            memory = ended_with(lambda writer: writer.of_length(length))
            depth = 1
            while 2 ** depth - 1 < length:
                depth += 1
            self.check(memory, length, depth)

    def test_depths(self):
        for depth in (1, 59, 60, 61, 62, 90):
            memory = ended_with(lambda writer: writer.of_depth(depth))
            self.check(memory, 2 * depth - 1, depth)

    def test_boxes_count(self):
        for length in (1497, 1499, 1501):
            def make(writer):
                return writer.object([43, writer.of_length(length)])

            self.check(ended_with(make), 1 + length, 11)
        for length, other in ((1001, 497), (1001, 499), (999, 497)):
            def make(writer):
                inner = writer.object([43, writer.of_length(length)])
                return writer.object([43, writer.object([PAIR, inner, writer.of_length(other)])])

            self.check(ended_with(make), 1 + 1 + 1 + other + length, 10)
        for depth in (60, 61):
            def make(writer):
                return writer.object([43, writer.of_depth(depth)])

            self.check(ended_with(make), 1 + 2 * depth - 1, depth)

    def test_a_box_counts_once(self):
        def make(writer):
            box = writer.object([43, writer.of_length(1001)])
            return writer.object([PAIR, box, writer.object([PAIR, box, box])])

        self.check(ended_with(make), 1001 + 5, 10)

    def test_functions(self):
        def captured(writer, length):
            """A function that has captured a value, on the stack of a memory that ended."""
            closure = [place for place, kind, _ in objects(tuple(writer.words), "nursery")][-1]
            writer.words[closure + 2] = writer.of_length(length)
            return writer.memory()

        ended = run(begin("(call (fn x (fn y (pair x (pair y x)))) 5)", ROOMY), 99)[0]
        # fn, y, pair, x, pair, y, x: what was captured stands there twice.
        for length in (1, 747, 745):
            self.check(captured(ValueWriter(ended), length), 5 + 2 * length, 4 if length == 1 else 13)
        ended = run(begin("(call (fn x (again f y (pair x (call f y)))) 5)", ROOMY), 99)[0]
        # again, f, y, pair, x, call, f, y.
        for length in (1, 1493, 1495):
            self.check(captured(ValueWriter(ended), length), 7 + length, 4 if length == 1 else 13)

    def test_what_stands_nowhere_does_not_count(self):
        # The argument, that the rows to come do not ask for.
        memory = run(begin("(call (fn x (plus (say 3) 4)) 5)", ROOMY), 3)[0]
        for make in (lambda writer: writer.of_length(10 ** 9 + 1), lambda writer: writer.of_depth(100)):
            writer = ValueWriter(memory)
            word = make(writer)
            great = writer.memory({read_register(memory, "base") + 1: word})
            self.assertIsNone(first_wrong(great))
            self.assertEqual(rest_text((), great), "(plus (say 3) 4)")
        # What the running function captured, behind the row that takes it.
        memory = run(begin("(call (fn y (call (fn x (plus y (say 4))) 5)) 6)", ROOMY), 8)[0]
        self.assertEqual(rest_text((), memory), "(plus 6 (say 4))")
        writer = ValueWriter(memory)
        word = writer.of_length(10 ** 9 + 1)
        closure = led_to(memory, memory[read_register(memory, "base")])
        self.assertEqual(memory[closure + 2], n(6))
        great = writer.memory({closure + 2: word})
        # From the nursery an address may lead to the half in use.
        self.assertIsNone(first_wrong(great))
        self.assertEqual(rest_text((), great), "(plus 6 (say 4))")
        # A box that is not met.
        writer = ValueWriter(begin("(boxes b 5 (say 4))", ROOMY))
        word = writer.of_length(10 ** 9 + 1)
        great = writer.memory({read_register(writer.words, "half") + 1: word})
        self.assertIsNone(first_wrong(great))
        self.assertEqual(rest_text((), great), "(say 4)")

    def test_what_a_function_captured_and_does_not_use(self):
        # The body's one row that takes what was captured gives way to a number.
        memory = begin("(boxes b 0 (fn x b))", ROOMY)
        rows = read_register(memory, "stack") - 3 * read_register(memory, "rows")
        taken = rows + 9
        self.assertEqual(memory[taken:taken + 3], (m(1), m(0), m(0)))
        ended = run(with_words(memory, {taken: m(0), taken + 1: n(5)}), 99)[0]
        self.assertEqual(rest_text((), ended), "(fn x1 5)")
        closure = objects(ended, "nursery")[-1][0]
        for make in (lambda writer: writer.of_length(10 ** 9 + 1), lambda writer: writer.of_depth(100)):
            writer = ValueWriter(ended)
            word = make(writer)
            great = writer.memory({closure + 2: word})
            self.assertIsNone(first_wrong(great))
            self.assertEqual(rest_text((), great), "(fn x1 5)")

    def test_machines_at_the_limits(self):
        for program in (((), long_term(1500)), ((), deep_term(60))):
            memory = begun(program, (200, 40, 60, 400, 9))
            self.assertEqual(rest(memory), program)
        # A program whose run makes ever greater values.
        memory, found = begin("(call (again f x (call f (pair x x))) 1)", ROOMY), set()
        for _ in range(200):
            memory = stepped(memory)[0]
            try:
                rest(memory)
                found.add("told")
                self.assertNotIn("great", found)
            except TooGreat:
                found.add("great")
        self.assertEqual(found, {"told", "great"})


class Functions(unittest.TestCase):
    def test_rest_text_in_books(self):
        memory = begin("(call (fn y (plus y y)) (plus 1 2))", ROOMY)
        self.assertEqual(rest_text((), memory), "(call (fn x1 (plus x1 x1)) (plus 1 2))")
        self.assertEqual(rest_text((LET,), memory), "(let (plus 1 2) x1 (plus x1 x1))")
        self.assertEqual(rest_text((LET, TWICE), memory), "(twice (plus 1 2))")
        self.assertEqual(rest_text(BOOK, memory), "(twice (plus 1 2))")
        self.assertEqual(rest_text((LET,), run(memory, 4)[0]), "(let 3 x1 (plus x1 x1))")
        boxes = begin("(boxes b (fn x (call (fn y (plus y y)) x)) (look b))", ROOMY)
        self.assertEqual(rest_text((LET, TWICE), boxes), "(boxes b1 (fn x1 (twice x1)) (look b1))")
        self.assertEqual(rest_text(book=(), memory=boxes), rest_text((), boxes))

    def test_are_at_one(self):
        text = "(call (fn y (plus y y)) (plus 1 2))"
        for sizes in (SMALL_SIZES, (200, 1, 30, 33, 2)):
            self.assertIs(are_at_one(begin(text), begin(text, sizes)), True)
            self.assertIs(are_at_one(run(begin(text), 3)[0], begin(text, sizes)), True)
            self.assertIs(are_at_one(run(begin(text), 4)[0], begin(text, sizes)), False)
        self.assertIs(are_at_one(begin("(boxes b 1 c 2 (pair b c))"), begin("(boxes b 2 c 1 (pair c b))")), True)
        self.assertIs(are_at_one(memory=begin("5"), other=begin("6")), False)

    def test_no_sound_memories(self):
        good = begin("5")
        wrong = [(value, None) for value in odd_values() if not isinstance(value, tuple)] + [
            ((), None), (good[:25], None), (list(good), None), (with_words(good, {40: True}), 40),
            (with_words(good, {0: m(2)}), 0), (good + (0,), 23), (with_words(good, {2: m(0)}), 2),
        ]
        for value, index in wrong:
            for call in (lambda: rest(value), lambda: rest(memory=value), lambda: rest_text((), value),
                         lambda: are_at_one(value, None), lambda: are_at_one(good, value), lambda: run(value, -1)):
                with self.assertRaises(InvalidMemory) as caught:
                    call()
                self.assertEqual(caught.exception.index, index)
        for book, index in ((None, None), ([], None), ((LET, LET), 1)):
            with self.assertRaises(InvalidBook) as caught:
                rest_text(book, None)
            self.assertEqual(caught.exception.index, index)

    def test_errors_of_both_come_ahead_of_too_great(self):
        great = ended_with(lambda writer: writer.of_length(2001))
        self.assertRaises(TooGreat, are_at_one, great, great)
        with self.assertRaises(InvalidMemory) as caught:
            are_at_one(great, with_words(great, {24: m(0)}))
        self.assertEqual(caught.exception.index, 24)


if __name__ == "__main__":
    unittest.main()
