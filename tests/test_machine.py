"""Points 33 to 36: beginning, the order in which a small step is settled, what rows do, which steps make."""

import unittest

from formstead.collector import begun_great, begun_small, room
from formstead.errors import InvalidMemory, InvalidNumber, InvalidProgram, InvalidSizes, NoRoom
from formstead.machine import begun, makes_step, outcome, stepped
from formstead.memory import area, frames, laid_out, objects, read_register
from formstead.plain import next_of, tidied
from formstead.rows import code_of
from formstead.runs import run
from tests.helpers import odd_values, rng
from tests.machines import (
    BUSY, ROOMY, SMALL_SIZES, a, assert_sound, begin, changes, free_words_are_not_read, m, n, random_machine, source,
    with_words,
)
from tests.plain_machine import Machine
from tests.plain_rest import plain_rest, registers
from tests.plain_steps import plain_next, plain_tidied


class Beginning(unittest.TestCase):
    def test_no_boxes(self):
        program = source("(plus 1 2)")
        memory = begun(program, (21, 2, 13, 22, 3))
        empty = laid_out((21, 2, 13, 22, 3), code_of(program))
        stack, half = read_register(memory, "stack"), read_register(memory, "half")
        self.assertEqual(changes(empty, memory), {
            2: m(stack + 2), 3: m(stack + 4), 5: m(half + 2), stack: m(0), stack + 1: m(0), stack + 2: a(half),
            half: 35, half + 1: m(0),
        })

    def test_boxes_and_what_they_hold(self):
        text = "(boxes a (pair (fn x b) (pair 5 (again f y (pair c a)))) b a c (fn z 1) (pair c 2))"
        memory = begin(text, (20, 1, 12, 40, 1))
        half = read_register(memory, "half")
        box, closure = 43, [4 * (8 * s) + 3 for s in range(9)]
        self.assertEqual(memory[half:read_register(memory, "old")], (
            box, a(half + 11), box, a(half), box, a(half + 24),
            closure[4], m(0), a(half), a(half + 2), a(half + 4),
            71, a(half + 14), a(half + 17),
            closure[2], m(1), a(half + 2),
            71, n(5), a(half + 20),
            closure[3], m(2), a(half + 4), a(half),
            closure[1], m(3),
        ))

    def test_pairs_within_pairs(self):
        memory = begin("(boxes a (pair (pair 1 (pair 2 a)) (pair 3 (fn x a))) 5)", (20, 1, 12, 60, 1))
        half = read_register(memory, "half")
        self.assertEqual(memory[half:half + 20], (
            43, a(half + 5), 67, m(0), a(half),
            71, a(half + 8), a(half + 14), 71, n(1), a(half + 11), 71, n(2), a(half),
            71, n(3), a(half + 17), 67, m(1), a(half),
        ))
        self.assertEqual(read_register(memory, "old"), half + 20)

    def test_no_room(self):
        # A box has 2 words, a pair 3; the closure of body 0 has 2 and one for each box.
        program = source("(boxes a (pair 1 (pair 1 (pair 1 (pair 1 (pair 1 2))))) 5)")
        self.assertEqual(read_register(begun(program, (20, 1, 12, 20, 1)), "old") -
                         read_register(begun(program, (20, 1, 12, 20, 1)), "half"), 20)
        self.assertEqual(room(begun(program, (20, 1, 12, 20, 1))), 0)
        more = source("(boxes a (pair 1 (pair 1 (pair 1 (pair 1 (pair 1 (fn x 3)))))) 5)")
        self.assertRaises(NoRoom, begun, more, (20, 1, 12, 20, 1))
        self.assertRaises(NoRoom, begun, more, (200, 40, 60, 21, 9))
        self.assertEqual(room(begun(more, (20, 1, 12, 22, 1))), 0)
        boxes = source("(boxes a 1 b 1 c 1 d 1 e 1 f 1 7)")
        self.assertEqual(room(begun(boxes, (20, 1, 12, 20, 1))), 0)
        self.assertRaises(NoRoom, begun, source("(boxes a 1 b 1 c 1 d 1 e 1 f 1 g 1 7)"), (20, 1, 12, 20, 1))

    def test_errors(self):
        for value in odd_values() + [((("say", n(1)),), ("number", 1))]:
            with self.assertRaises(InvalidProgram) as caught:
                begun(value, None)
            self.assertIs(caught.exception.given, value)
        program = source("5")
        for sizes in odd_values() + [(19, 1, 12, 20, 1), (20, 1, 12, 20, 10), (20, 1, 12, 401, 1), [20, 1, 12, 20, 1]]:
            with self.assertRaises(InvalidSizes) as caught:
                begun(program, sizes)
            self.assertIs(caught.exception.given, sizes)
        self.assertEqual(begun(sizes=SMALL_SIZES, program=program), begin("5"))

    def test_the_rest_is_the_program(self):
        for seed in range(200):
            program, memory = random_machine(rng(seed))
            if memory is not None:
                self.assertEqual(plain_rest(memory), plain_tidied(program))
                self.assertEqual(outcome(memory), "runs")
                assert_sound(memory)


class EachRow(unittest.TestCase):
    def row(self, memory, words, said=()):
        """One small step changes just these words, but for the registers row and top, which are among them."""
        behind, told = stepped(memory)
        self.assertEqual(changes(with_words(memory, words), behind), {})
        self.assertEqual(told, said)
        return behind

    def at(self, text, steps, sizes=ROOMY):
        memory = run(begin(text, sizes), steps)[0]
        return memory, registers(memory)

    def test_number(self):
        memory, told = self.at("-7", 0)
        self.row(memory, {1: m(1), 3: m(told["top"] + 1), told["top"]: n(-7)})

    def test_taken(self):
        memory, told = self.at("(boxes a 1 b 2 (pair b a))", 0)
        self.row(memory, {1: m(1), 3: m(told["top"] + 1), told["top"]: a(told["half"] + 2)})

    def test_argument_and_self(self):
        memory, told = self.at("(call (again f x (pair f x)) 3)", 3)
        behind = self.row(memory, {1: m(told["row"] + 1), 3: m(told["top"] + 1), told["top"]: a(told["nursery"])})
        self.row(behind, {1: m(told["row"] + 2), 3: m(told["top"] + 2), told["top"] + 1: n(3)})

    def test_close(self):
        memory, told = self.at("(fn x 5)", 0)
        self.row(memory, {1: m(1), 3: m(told["top"] + 1), 4: m(told["young"] + 2), told["top"]: a(told["young"]),
                          told["young"]: 35, told["young"] + 1: m(1)})
        memory, told = self.at("(boxes a 1 b 2 (fn x (pair b a)))", 2)
        self.row(memory, {1: m(3), 3: m(told["top"] - 1), 4: m(told["young"] + 4), told["top"] - 2: a(told["young"]),
                          told["young"]: 99, told["young"] + 1: m(1), told["young"] + 2: a(told["half"] + 2),
                          told["young"] + 3: a(told["half"])})

    def test_pair_and_box(self):
        memory, told = self.at("(pair 5 6)", 2)
        self.row(memory, {1: m(3), 3: m(told["top"] - 1), 4: m(told["young"] + 3), told["top"] - 2: a(told["young"]),
                          told["young"]: 71, told["young"] + 1: n(5), told["young"] + 2: n(6)})
        memory, told = self.at("(box 5)", 1)
        self.row(memory, {1: m(2), 4: m(told["young"] + 2), told["top"] - 1: a(told["young"]), told["young"]: 43,
                          told["young"] + 1: n(5)})

    def test_first_second_look(self):
        for text, value in (("(first (pair 5 6))", 5), ("(second (pair 5 6))", 6)):
            memory, told = self.at(text, 3)
            self.row(memory, {1: m(4), told["top"] - 1: n(value)})
        memory, told = self.at("(look (box 5))", 2)
        self.row(memory, {1: m(3), told["top"] - 1: n(5)})

    def test_plus_minus_times(self):
        for word, value in (("plus", 13), ("minus", 3), ("times", 40)):
            memory, told = self.at(f"({word} 8 5)", 2)
            self.row(memory, {1: m(3), 3: m(told["top"] - 1), told["top"] - 2: n(value)})

    def test_test_and_go(self):
        memory, told = self.at("(say (test 0 2 3))", 1)
        behind = self.row(memory, {1: m(2), 3: m(told["top"] - 1)})
        behind = stepped(behind)[0]
        self.row(behind, {1: m(5)})
        for number in (1, -1, 999999999):
            memory, told = self.at(f"(say (test {number} 2 3))", 1)
            self.row(memory, {1: m(4), 3: m(told["top"] - 1)})

    def test_say(self):
        memory, _ = self.at("(say -9)", 1)
        self.row(memory, {1: m(2)}, (-9,))

    def test_put(self):
        memory, told = self.at("(boxes a 1 (put a 7))", 2)
        self.row(memory, {1: m(3), 3: m(told["top"] - 1), told["half"] + 1: n(7), told["top"] - 2: n(7)})
        # A box of the nursery is not remembered, whatever is put; nor is an old one in which something old is put.
        memory, told = self.at("(put (box 1) (pair 2 3))", 5)
        self.row(memory, {1: m(6), 3: m(told["top"] - 1), told["nursery"] + 1: a(told["nursery"] + 2),
                          told["top"] - 2: a(told["nursery"] + 2)})
        memory, told = self.at("(boxes a 1 b 2 (put a b))", 2)
        self.row(memory, {1: m(3), 3: m(told["top"] - 1), told["half"] + 1: a(told["half"] + 2),
                          told["top"] - 2: a(told["half"] + 2)})

    def test_put_of_something_young(self):
        memory, told = self.at("(boxes a 1 (put a (box 5)))", 3)
        self.row(memory, {1: m(4), 3: m(told["top"] - 1), 14: m(1), told["half"] + 1: a(told["nursery"]),
                          told["top"] - 2: a(told["nursery"]), told["remembered"]: a(told["half"])})
        # It is remembered again, even if it stands there already.
        memory, told = self.at("(boxes a 1 (pair (put a (box 5)) (put a (box 6))))", 7)
        behind = self.row(memory, {1: m(8), 3: m(told["top"] - 1), 14: m(2), told["half"] + 1: a(told["nursery"] + 2),
                                   told["top"] - 2: a(told["nursery"] + 2), told["remembered"] + 1: a(told["half"])})
        self.assertEqual(behind[told["remembered"]:told["remembered"] + 2], (a(told["half"]),) * 2)

    def test_call(self):
        memory, told = self.at("(say (call (fn x x) 3))", 2)
        top = told["top"]
        self.row(memory, {1: m(5), 2: m(top), 3: m(top + 2), top - 2: m(3), top - 1: m(told["base"]),
                          top: a(told["nursery"]), top + 1: n(3)})

    def test_tail(self):
        memory, told = self.at("(call (fn x x) 3)", 2)
        base = told["base"]
        # What the operands left on the stack stays there.
        self.row(memory, {1: m(3), 3: m(base + 2), base: a(told["nursery"]), base + 1: n(3)})

    def test_back(self):
        memory, told = self.at("5", 1)
        stack = told["stack"]
        self.row(memory, {0: m(1), 1: m(0), 2: m(0), 3: m(stack + 1), stack: n(5)})
        memory, told = self.at("(say (call (fn x x) 3))", 4)
        self.assertEqual(told["base"], told["top"] - 3)
        base = told["base"]
        self.row(memory, {1: m(3), 2: m(told["stack"] + 2), 3: m(base - 1), base - 2: n(3)})

    def test_an_ended_machine_changes_no_more(self):
        memory = run(begin("5"), 2)[0]
        self.assertEqual(outcome(memory), "ended")
        self.assertEqual(stepped(memory), (memory, ()))

    def test_free_words_stay(self):
        memory = run(begin("(plus 1 2)"), 4)[0]
        stack = read_register(memory, "stack")
        self.assertEqual(memory[stack:stack + 6], (n(3), m(0), a(read_register(memory, "half")), n(0), n(3), n(2)))


class Faults(unittest.TestCase):
    def fault(self, text, status, steps):
        memory = run(begin(text, ROOMY), steps)[0]
        behind, said = stepped(memory)
        self.assertEqual(changes(memory, behind), {0: m(status)})
        self.assertEqual(said, ())
        self.assertIs(makes_step(memory), False)
        self.assertEqual(outcome(behind), {2: "kind", 3: "great"}[status])
        self.assertEqual(stepped(behind), (behind, ()))
        self.assertEqual(plain_rest(behind), plain_rest(memory))
        self.assertEqual(next_of(plain_rest(memory))[0], outcome(behind))

    def test_kind(self):
        for value, steps in (("1", 1), ("(pair 1 2)", 3), ("(fn x x)", 1), ("(box 1)", 2)):
            wanted = {"first": "(p", "second": "(p", "look": "(b", "say": "1"}
            for word, good in wanted.items():
                memory = run(begin(f"({word} {value})", ROOMY), steps)[0]
                if value.startswith(good):
                    self.assertIs(makes_step(memory), True)
                else:
                    self.fault(f"({word} {value})", 2, steps)
            for text, good in ((f"(call {value} 5)", "(f"), (f"(put {value} 5)", "(b"), (f"(plus {value} 5)", "1"),
                               (f"(minus {value} 5)", "1"), (f"(times {value} 5)", "1")):
                if not value.startswith(good):
                    self.fault(text, 2, steps + 1)
                else:
                    self.assertIs(makes_step(run(begin(text, ROOMY), steps + 1)[0]), True)
            if value != "1":
                self.fault(f"(test {value} 5 6)", 2, steps)
                self.fault(f"(plus 5 {value})", 2, steps + 1)
                self.fault(f"(minus 5 {value})", 2, steps + 1)
                self.fault(f"(times 5 {value})", 2, steps + 1)
            if not value.startswith("(f"):
                self.fault(f"(say (call {value} 5))", 2, steps + 1)

    def test_great(self):
        for text in ("(plus 999999999 1)", "(plus -999999999 -1)", "(minus -999999999 1)", "(minus 999999999 -1)",
                     "(times 500000000 2)", "(times 500000000 -2)", "(times 999999999 999999999)"):
            self.fault(text, 3, 2)
        for text in ("(plus 999999998 1)", "(minus -999999998 1)", "(times 333333333 3)", "(times -333333333 3)"):
            self.assertEqual(outcome(run(begin(text), 9)[0]), "ended")

    def test_kind_ahead_of_great(self):
        self.fault("(plus 999999999 (box 1))", 2, 3)

    def test_ahead_of_room(self):
        # The stack is full where a call of a number, which wants two places, comes; in the first text no call of a
        # function would be possible either.
        for text, status in (("(call 1 2)", 2), ("(say (call 1 2))", 2)):
            memory = with_full_stack(text, 2)
            self.assertEqual(changes(memory, stepped(memory)[0]), {0: m(status)})
        memory = with_full_stack("(say (call (fn x x) 2))", 2)
        self.assertEqual(changes(memory, stepped(memory)[0]), {0: m(4)})
        # The remembered ones are full where something young is put into what is no box.
        memory = run(begin("(boxes a 1 (pair (put a (box 2)) (put 3 (box 4))))", (20, 1, 12, 20, 1)), 7)[0]
        self.assertEqual(read_register(memory, "many"), 1)
        self.assertEqual(changes(memory, stepped(memory)[0]), {0: m(2)})

    def test_seen_through_signposts(self):
        text = "(boxes a (pair 1 2) b (fn x 5) (pair (first (look a)) (pair (call (look b) 1) (put a 3))))"
        memory = begin(text, ROOMY)
        great = run(begun_great(memory), 400)[0]
        self.assertEqual(outcome(great), "ended")
        self.assertEqual(plain_rest(great), plain_rest(run(memory, 400)[0]))


def with_full_stack(text, steps):
    """The machine behind so many steps, with numbers beneath its operands, so that the stack is full."""
    memory = run(begin(text), steps)[0]
    told = registers(memory)
    base, top, end = told["base"], told["top"], told["remembered"]
    fill = end - top
    words = list(memory)
    operands = words[base + 2:top]
    words[base + 2:end] = [0] * fill + operands
    words[3] = m(end)
    return tuple(words)


class Room(unittest.TestCase):
    def deep(self, ones, last="1"):
        """A text that needs so many operands beneath its last one."""
        return "(plus 1 " * ones + last + ")" * ones

    def test_the_stack_just_full(self):
        # The frame has 4 words, so 16 operands fit.
        self.assertEqual(outcome(run(begin(self.deep(15)), 100)[0]), "ended")
        memory = run(begin(self.deep(16)), 16)[0]
        self.assertEqual(read_register(memory, "top"), read_register(memory, "remembered"))
        behind = stepped(memory)[0]
        self.assertEqual(changes(memory, behind), {0: m(4)})
        self.assertEqual(outcome(behind), "room")
        self.assertIs(makes_step(memory), False)
        self.assertEqual(stepped(behind), (behind, ()))
        self.assertEqual(plain_rest(behind), source(self.deep(16)))

    def test_each_row_that_wants_a_place(self):
        for text, box in (("1", ""), ("b", "(boxes b 1 "), ("(fn x x)", "")):
            whole = box + self.deep(16, text) + (")" if box else "")
            memory = run(begin(whole), 16)[0]
            self.assertEqual(changes(memory, stepped(memory)[0]), {0: m(4)})
            whole = box + self.deep(15, text) + (")" if box else "")
            memory = run(begin(whole), 15)[0]
            self.assertNotIn(0, changes(memory, stepped(memory)[0]))
        for text in ("x", "f"):
            memory = begin(f"(call (again f x {self.deep(16, text)}) 1)")
            memory = run(memory, 3 + 16)[0]
            self.assertEqual(changes(memory, stepped(memory)[0]), {0: m(4)})
            memory = run(begin(f"(call (again f x {self.deep(15, text)}) 1)"), 3 + 15)[0]
            self.assertNotIn(0, changes(memory, stepped(memory)[0]))

    def test_close_with_captures_wants_no_place_of_the_stack(self):
        memory = run(begin(f"(boxes b 1 {self.deep(15, '(fn x b)')})"), 16)[0]
        self.assertEqual(read_register(memory, "top"), read_register(memory, "remembered"))
        behind = stepped(memory)[0]
        self.assertEqual(read_register(behind, "status"), 0)
        self.assertEqual(read_register(behind, "row"), 17)

    def test_call_wants_two_places(self):
        call = "(say (call (fn x x) 1))"
        for ones, status in ((12, 0), (13, 4), (14, 4)):
            memory = run(begin(self.deep(ones, call)), ones + 2)[0]
            self.assertEqual(read_register(stepped(memory)[0], "status"), status)

    def test_the_nursery_in_all(self):
        names = "abcdefghijk"
        for many in (10, 11):
            inner = "1"
            for name in names[:many]:
                inner = f"(pair {name} {inner})"
            boxes = " ".join([f"{name} 1" for name in names[:many]])
            memory = run(begin(f"(boxes {boxes} (fn x {inner}))", (20, 1, 12, 60, 1)), many)[0]
            behind = stepped(memory)[0]
            self.assertEqual(read_register(behind, "status"), 0 if many == 10 else 4)
            if many == 11:
                self.assertEqual(changes(memory, behind), {0: m(4)})
            else:
                self.assertEqual(read_register(behind, "young"), read_register(behind, "first"))

    def pairs(self, many):
        """A text that makes so many pairs which nothing needs, and then one more."""
        text = "(pair 7 8)"
        for _ in range(many):
            text = f"(test (first (pair 0 1)) {text} 5)"
        return text

    def test_the_nursery_just_full(self):
        # Four pairs fill the nursery; the fifth one waits for a small collection.
        memory = run(begin(self.pairs(4), (20, 1, 12, 20, 1)), 4 * 5 + 2)[0]
        told = registers(memory)
        self.assertEqual([told["young"], told["row"]], [told["first"], 22])
        self.assertIs(makes_step(memory), False)
        behind, said = stepped(memory)
        self.assertEqual(changes(memory, behind), {8: m(1), 11: m(told["old"]), 12: m(told["stack"])})
        self.assertEqual(said, ())
        memory = run(begin(self.pairs(3), (20, 1, 12, 20, 1)), 3 * 5 + 2)[0]
        self.assertEqual(read_register(stepped(memory)[0], "young"), read_register(memory, "first"))

    def test_a_box_just_fits(self):
        # Behind three pairs and one box there is one free word: a box does not fit, behind three pairs it does.
        text = self.pairs(3).replace("(pair 7 8)", "(box (box 7))")
        memory = run(begin(text, (20, 1, 13, 20, 1)), 3 * 5 + 1)[0]
        memory, _ = stepped(memory)
        self.assertEqual(read_register(memory, "first") - read_register(memory, "young"), 2)
        memory, _ = stepped(memory)
        self.assertEqual([read_register(memory, "small"), read_register(memory, "young")],
                         [0, read_register(memory, "first")])
        memory = run(begin(text, (20, 1, 12, 20, 1)), 3 * 5 + 2)[0]
        self.assertEqual(read_register(memory, "first") - read_register(memory, "young"), 1)
        self.assertEqual(read_register(stepped(memory)[0], "small"), 1)

    def full(self):
        """A machine of which the nursery is full and the room is too small by one word for a small collection."""
        memory = run(begin(self.pairs(4), (20, 1, 12, 20, 1)), 4 * 5 + 2)[0]
        told = registers(memory)
        # Boxes that nothing needs fill the half.
        old, words = told["old"], list(memory)
        while told["half"] + told["size"] - old > 12:
            words[old:old + 2] = [43, n(0)]
            old += 2
        words[5] = m(old)
        self.assertEqual(told["half"] + told["size"] - old, 12)
        return tuple(words)

    def test_just_enough_room_for_a_small_collection(self):
        memory = self.full()
        self.assertEqual(room(memory), 12)
        self.assertEqual(read_register(stepped(memory)[0], "small"), 1)
        old = read_register(memory, "old")
        less = with_words(memory, {old: 43, old + 1: n(0), 5: m(old + 2)})
        self.assertEqual(room(less), 10)
        self.assertEqual(changes(less, stepped(less)[0]), {0: m(4)})
        self.assertIs(makes_step(less), False)

    def test_a_great_step_in_the_place_of_the_row(self):
        memory = self.full()
        told = registers(memory)
        other = 2 * told["first"] + told["size"] - told["half"]
        # As begun_great tells it, but with the nursery full: the room is what is left of the other half.
        great = with_words(memory, {7: m(1), 25: m(told["old"]), 15: m(told["old"] - told["half"]), 6: m(other),
                                    5: m(other), 9: m(other), 10: m(told["stack"]), 16: m(0)})
        self.assertEqual(room(great), 12)
        self.assertEqual(read_register(stepped(great)[0], "small"), 1)
        # One word more is in the other half: then a great step comes, though none is owed.
        old = told["old"]
        less = with_words(great, {old: 43, old + 1: n(0), 25: m(old + 2), 15: m(old + 2 - told["half"])})
        self.assertEqual(room(less), 10)
        behind = stepped(less)[0]
        self.assertEqual(changes(less, behind), {10: m(told["stack"] + 1)})
        self.assertIs(makes_step(less), False)
        owing = with_words(less, {16: m(1)})
        self.assertEqual(changes(owing, stepped(owing)[0]), {10: m(told["stack"] + 1), 16: m(0)})
        ended = run(less, 600)[0]
        self.assertEqual(outcome(ended), "ended")

    def test_put_with_the_remembered_ones_full(self):
        text = "(boxes a 1 b 1 (pair (put a (box 2)) (put b (box 4))))"
        memory = run(begin(text, (20, 1, 12, 60, 1)), 7)[0]
        told = registers(memory)
        self.assertEqual([told["many"], told["row"]], [1, 7])
        self.assertEqual(changes(memory, stepped(memory)[0]), {8: m(1), 11: m(told["old"]), 12: m(told["stack"])})
        self.assertIs(makes_step(memory), False)
        # Of two that can be remembered one is free.
        memory = run(begin(text, (20, 2, 12, 60, 1)), 7)[0]
        self.assertIs(makes_step(memory), True)
        self.assertEqual(read_register(stepped(memory)[0], "many"), 2)
        # What is put is a number, or something old, or the box is young.
        for inner, steps in (("(put b 4)", 6), ("(put b a)", 6), ("(put (box 3) (box 4))", 8)):
            memory = run(begin(f"(boxes a 1 b 1 (pair (put a (box 2)) {inner}))", (20, 1, 12, 60, 1)), steps)[0]
            self.assertEqual(read_register(memory, "many"), 1)
            self.assertIs(makes_step(memory), True)
            self.assertEqual(read_register(stepped(memory)[0], "many"), 1)

    def test_put_without_room_to_collect(self):
        text = "(boxes a 1 b 1 (pair (put a (box 2)) (put b (box 4))))"
        memory = run(begin(text, (20, 1, 12, 20, 1)), 7)[0]
        told = registers(memory)
        old, words = told["old"], list(memory)
        while told["half"] + told["size"] - old >= 4:
            words[old:old + 2] = [43, n(0)]
            old += 2
        words[5] = m(old)
        full = tuple(words)
        self.assertLess(room(full), 4)
        self.assertEqual(changes(full, stepped(full)[0]), {0: m(4)})


class Owed(unittest.TestCase):
    def test_pace_behind_a_row(self):
        for pace in (1, 3, 9):
            great = begun_great(begin("(boxes a 1 (plus 1 2))", (20, 1, 12, 60, pace)))
            self.assertEqual(read_register(great, "owed"), 0)
            behind = stepped(great)[0]
            self.assertEqual([read_register(behind, "row"), read_register(behind, "owed")], [1, pace])
            for owed in range(pace - 1, -1, -1):
                if not read_register(behind, "great"):
                    break
                self.assertIs(makes_step(behind), False)
                behind, said = stepped(behind)
                self.assertEqual(said, ())
                self.assertEqual([read_register(behind, "row"), read_register(behind, "owed")],
                                 [1, owed if read_register(behind, "great") else 0])

    def test_low_falls_with_the_stack(self):
        memory = run(begin("(boxes a 1 (plus 1 2))", (20, 1, 12, 60, 9)), 2)[0]
        great = begun_great(memory)
        top = read_register(great, "top")
        done = with_words(great, {10: m(top)})
        behind = stepped(done)[0]
        self.assertEqual([read_register(behind, "low"), read_register(behind, "top")], [top - 1, top - 1])
        kept = with_words(great, {10: m(top - 2)})
        self.assertEqual(read_register(stepped(kept)[0], "low"), top - 2)

    def test_behind_the_last_row(self):
        memory = run(begin("(boxes a 1 5)", (20, 1, 12, 60, 4)), 1)[0]
        great = begun_great(memory)
        done = with_words(great, {10: m(read_register(great, "top"))})
        behind = stepped(done)[0]
        told = registers(behind)
        self.assertEqual([told["status"], told["owed"], told["low"], told["top"]],
                         [1, 4, told["stack"] + 1, told["stack"] + 1])
        self.assertEqual(stepped(behind), (behind, ()))

    def test_fetched_while_a_great_collection_goes_on(self):
        memory = begun_great(begin("(boxes a 1 b 2 (pair b a))", (20, 1, 12, 60, 1)))
        told = registers(memory)
        # taken 1: first the closure is moved, then the box.
        behind = stepped(memory)[0]
        self.assertEqual(behind[told["half"]:told["half"] + 6],
                         (99, m(0), a(told["first"]), a(told["first"] + 2), 43, n(2)))
        self.assertEqual(behind[told["first"] + 2:told["first"] + 5], (a(told["half"] + 4), n(2), a(told["half"])))
        # Where they were taken from nothing is written; what was owed is still 1.
        self.assertEqual(behind[told["base"]], memory[told["base"]])
        self.assertEqual([registers(behind)[name] for name in ("left", "old", "owed")],
                         [8 - 6, told["half"] + 6, 1])

    def test_operands_are_fetched_the_first_one_first(self):
        memory = run(begin("(boxes a 1 b 2 (pair b a))", (20, 1, 12, 60, 1)), 2)[0]
        memory = begun_great(memory)
        told = registers(memory)
        behind = stepped(memory)[0]
        self.assertEqual(behind[told["half"]:told["half"] + 4], (43, n(2), 43, n(1)))
        self.assertEqual(behind[told["nursery"] + 1:told["nursery"] + 3], (a(told["half"]), a(told["half"] + 2)))


class Makes(unittest.TestCase):
    def test_each_row(self):
        rows = {
            "number": ("5", 0, False), "taken": ("(boxes a 1 a)", 0, False),
            "argument": ("(call (fn x x) 1)", 3, False),
            "self": ("(call (again f x f) 1)", 3, False), "close": ("(fn x x)", 0, False),
            "call": ("(say (call (fn x x) 1))", 2, True), "tail": ("(call (fn x x) 1)", 2, True),
            "back": ("5", 1, False),
            "pair": ("(pair 1 2)", 2, False), "first": ("(first (pair 1 2))", 3, True),
            "second": ("(second (pair 1 2))", 3, True), "test": ("(test 0 1 2)", 1, True),
            "go": ("(say (test 0 1 2))", 3, False), "plus": ("(plus 1 2)", 2, True), "minus": ("(minus 1 2)", 2, True),
            "times": ("(times 1 2)", 2, True), "box": ("(box 1)", 1, True), "look": ("(look (box 1))", 2, True),
            "put": ("(put (box 1) 2)", 3, True), "say": ("(say 1)", 1, True),
        }
        for word, (text, steps, makes) in rows.items():
            memory = run(begin(text), steps)[0]
            self.assertIs(makes_step(memory), makes, word)
            behind, said = stepped(memory)
            rest = plain_rest(memory)
            if makes:
                self.assertEqual(("step", plain_rest(behind), said), plain_next(rest))
            else:
                self.assertEqual((plain_rest(behind), said), (rest, ()))
        self.assertEqual(len(rows), 20)

    def test_nothing_in_a_collection(self):
        memory = run(begin("(plus 1 2)", ROOMY), 2)[0]
        self.assertIs(makes_step(memory), True)
        self.assertIs(makes_step(begun_small(memory)), False)
        great = begun_great(memory)
        self.assertIs(makes_step(great), True)
        self.assertIs(makes_step(with_words(great, {16: m(1)})), False)
        self.assertIs(makes_step(with_words(memory, {0: m(4)})), False)
        self.assertIs(makes_step(run(memory, 9)[0]), False)


class Statuses(unittest.TestCase):
    def test_nothing_changes(self):
        memory = run(begin("(plus 1 2)", ROOMY), 2)[0]
        for status, name in enumerate(("runs", "ended", "kind", "great", "room")):
            told = with_words(memory, {0: m(status)})
            self.assertEqual(outcome(told), name)
            self.assertEqual(outcome(memory=told), name)
            if status:
                self.assertEqual(stepped(told), (told, ()))
                amid = with_words(begun_small(memory), {0: m(status)})
                self.assertEqual(stepped(amid), (amid, ()))
        self.assertEqual(stepped(memory=memory), stepped(memory))
        self.assertIs(makes_step(memory=memory), True)


class Runs(unittest.TestCase):
    def test_steps(self):
        memory = begin("(pair (say 1) (say 2))", ROOMY)
        here, said = memory, ()
        for steps in range(9):
            self.assertEqual(run(memory, steps), (here, said))
            here, more = stepped(here)
            said += more
        self.assertEqual(said, (1, 2))
        self.assertEqual(run(steps=3, memory=memory), run(memory, 3))

    def test_wrong_steps(self):
        memory = begin("5")
        for steps in odd_values() + [-1, 100001, True, "3"]:
            if steps == 0 and not isinstance(steps, bool):
                continue
            with self.assertRaises(InvalidNumber) as caught:
                run(memory, steps)
            self.assertIs(caught.exception.given, steps)
        self.assertEqual(outcome(run(memory, 100000)[0]), "ended")

    def test_no_sound_memory(self):
        for value in odd_values():
            with self.assertRaises(InvalidMemory) as caught:
                run(value, None)
            self.assertEqual(caught.exception.index, None if not isinstance(value, tuple) or len(value) < 26 else 0)
        memory = run(begin("(plus 1 2)", ROOMY), 2)[0]
        for told, index in ((with_words(memory, {0: m(2)}), 0), (memory[:-1], 23), (with_words(memory, {26: 0}), 26)):
            for steps in (-1, 0, True):
                with self.assertRaises(InvalidMemory) as caught:
                    run(told, steps)
                self.assertEqual(caught.exception.index, index)

    def test_many_steps(self):
        memory = begin("(call (again f x (call f (plus x 1))) 0)")
        behind = run(memory, 100000)[0]
        self.assertEqual(outcome(behind), "runs")
        self.assertEqual(run(run(memory, 99991)[0], 9)[0], behind)


class AgainstThePlainMeaning(unittest.TestCase):
    def test_each_small_step(self):
        outcomes = {}
        for seed in range(150):
            program, memory = random_machine(rng(seed))
            if memory is None:
                continue
            rest = tidied(program)
            for _ in range(250):
                makes = makes_step(memory)
                behind, said = stepped(memory)
                if makes:
                    told, rest, wanted = plain_next(rest)
                    self.assertEqual((told, said), ("step", wanted))
                else:
                    self.assertEqual(said, ())
                if behind == memory and not makes:
                    break
                self.assertEqual(plain_rest(behind), rest, seed)
                assert_sound(behind)
                memory = behind
            outcomes[outcome(memory)] = outcomes.get(outcome(memory), 0) + 1
            if outcome(memory) != "room" and outcome(memory) != "runs":
                wanted = {"ended": "end", "kind": "kind", "great": "great"}[outcome(memory)]
                self.assertEqual(plain_next(rest)[0], wanted)
        self.assertEqual(sorted(outcomes), ["ended", "great", "kind", "room", "runs"])

    def test_each_word_by_the_second_machine(self):
        seen = {}
        for seed in range(250):
            _, memory = random_machine(rng(seed))
            if memory is None:
                continue
            second = Machine(memory)
            for _ in range(600):
                said = second.small_machine_step()
                behind, told = stepped(memory)
                self.assertEqual((behind, told), (tuple(second.m), said))
                if behind == memory:
                    break
                memory = behind
                amid = (read_register(memory, "great"), read_register(memory, "small"))
                seen[amid] = seen.get(amid, 0) + 1
        self.assertGreater(min(seen.values()), 50, seen)
        self.assertEqual(len(seen), 4)

    def test_free_words_are_not_read(self):
        for seed in range(30):
            row = rng(seed)
            _, memory = random_machine(row)
            if memory is None:
                continue
            for _ in range(80):
                self.assertTrue(free_words_are_not_read(row, memory, lambda told: stepped(told)[0]))
                memory = stepped(memory)[0]

    def test_in_roomy_and_in_small_sizes_alike(self):
        for text in BUSY:
            whole, said = run(begin(text, ROOMY), 20000)
            for sizes in ((60, 2, 12, 60, 1), (60, 1, 20, 80, 3), (80, 5, 30, 100, 9)):
                behind, told = run(begin(text, sizes), 20000)
                self.assertEqual(outcome(whole), "ended")
                if outcome(behind) != "room":
                    self.assertEqual((plain_rest(behind), told), (plain_rest(whole), said))
        self.assertEqual(area(begin("5"), 0), "registers")
        self.assertEqual((frames(begin("5"))[0][1], objects(begin("5"), "nursery")), (0, ()))


if __name__ == "__main__":
    unittest.main()
