"""Points 19 to 21: the place of a program, its steps, what is met, and rows of steps."""

import unittest

from formstead.errors import InvalidNumber, InvalidProgram, TooGreat
from formstead.plain import go_on, is_program, is_value, met, next_of, outcome_of, place_of, tidied
from formstead.texts import read_source
from tests.helpers import CORE, deep_term, long_term, most_memory, odd_values, plain_length, rng
from tests.plain_steps import plain_met, plain_next, plain_place, plain_tidied, random_program

ONE, TWO, FIVE = ("number", 1), ("number", 2), ("number", 5)
MOST = ("number", 999999999)
LEAST = ("number", -999999999)
SAME = ("fn", ("name", 0))
FOREVER = ("again", ("call", ("name", 1), ("name", 0)))
STEP = ("say", ONE)
SORTS = {"number": FIVE, "at": ("at", 0), "fn": SAME, "again": FOREVER, "pair": ("pair", ONE, TWO)}


def name(k):
    return ("name", k)


def at(k):
    return ("at", k)


def pairs(deep, inner=ONE):
    """So many pairs of one and the next one."""
    for _ in range(deep):
        inner = ("pair", ONE, inner)
    return inner


def values(length):
    """A value of a length, which is not 2; of even lengths one with a function."""
    if length % 2 == 0:
        function = ("fn", STEP)
        return function if length == 4 else ("pair", function, values(length - 5))
    return balanced((length + 1) // 2)


def balanced(leaves):
    """Pairs over so many numbers."""
    if leaves == 1:
        return ONE
    return ("pair", balanced(leaves // 2), balanced(leaves - leaves // 2))


class Values(unittest.TestCase):
    def test_values(self):
        for value in (ONE, LEAST, at(0), at(99), SAME, FOREVER, ("fn", STEP), ("again", name(1)), ("pair", ONE, at(3)),
                      ("pair", SAME, ("pair", FOREVER, ONE)), ("fn", at(7)), pairs(59)):
            self.assertIs(is_value(value), True, value)

    def test_no_values(self):
        wrong = [
            name(0), STEP, ("pair", ONE, STEP), ("pair", ("box", ONE), ONE), ("fn", name(1)), ("again", name(2)),
            ("pair", SAME, ("fn", name(1))), ("box", ONE), ("hole", 0), ("fn", ("hole", 0)), ("fn", ("let", ONE, ONE)),
            ["number", 1], ("number", 1000000000), ("at", -1), ("at", True), pairs(60), ("pair", ONE), ("fn", ONE, ONE),
            ("pair", values(750), values(750)),
        ]
        for value in odd_values() + wrong:
            self.assertIs(is_value(value), False, value)
        self.assertTrue(is_value(("pair", values(750), values(749))))

    def test_each_word(self):
        for word, names in CORE.items():
            self.assertIs(is_value((word,) + (ONE,) * len(names)), word in ("fn", "again", "pair"))


class Programs(unittest.TestCase):
    def test_programs(self):
        for program in (((), ONE), ((), STEP), ((ONE,), at(0)), ((at(1), at(0)), ("put", at(1), ("at", 0))),
                        ((("pair", SAME, at(0)),), STEP), ((FOREVER,), ("fn", at(0))), ((ONE,), ONE)):
            self.assertIs(is_program(program), True, program)

    def test_no_programs(self):
        wrong = [
            ((), name(0)), ((), at(0)), ((STEP,), ONE), ((ONE, ("pair", ONE, STEP)), ONE), ((at(1),), ONE), [(), ONE],
            ([], ONE), ((ONE,), at(1)), ((("fn", name(1)),), ONE), ((), ("let", ONE, ONE)), ((), ONE, ()),
            ((), ("hole", 0)),
            ((values(1499), ONE), ONE), ((), deep_term(61)), (ONE, ()), ((("pair", ("fn", name(1)), ONE),), ONE),
        ]
        for value in odd_values() + wrong:
            self.assertIs(is_program(value), False, value)
        self.assertTrue(is_program(((values(1498), ONE), ONE)))
        self.assertTrue(is_program(((), deep_term(60))))

    def test_refused(self):
        going = (lambda told: go_on(told, 1), lambda told: go_on(told, -1))
        for call in (outcome_of, place_of, met, tidied, next_of, *going):
            for value in odd_values() + [((STEP,), ONE), ((), name(0)), [(), ONE]]:
                with self.assertRaises(InvalidProgram) as caught:
                    call(value)
                self.assertIs(caught.exception.given, value)

    def test_by_name(self):
        program = ((), STEP)
        self.assertEqual(go_on(steps=1, program=program), (1, ((), ONE), (1,)))
        self.assertEqual([outcome_of(program=program), place_of(program=program)], ["step", ()])
        self.assertEqual([met(program=program), tidied(program=program)], [(), program])
        self.assertEqual(next_of(program=program), ("step", ((), ONE), (1,)))
        self.assertEqual([is_value(value=STEP), is_program(value=STEP)], [False, False])


class Places(unittest.TestCase):
    def place(self, term, place, boxes=()):
        self.assertEqual(place_of((boxes, term)), place)

    def test_values_have_none(self):
        for term in (ONE, SAME, ("fn", STEP), ("pair", ONE, ("pair", SAME, ONE)), FOREVER):
            self.place(term, None)
            self.assertEqual(next_of(((), term)), ("end", ((), term), ()))
            self.assertEqual(outcome_of(((), term)), "end")
        self.place(at(0), None, (ONE,))

    def test_here(self):
        for term in (("call", SAME, ONE), ("plus", ONE, ONE), ("first", ("pair", ONE, ONE)), ("test", ONE, STEP, STEP),
                     STEP, ("box", ONE), ("call", ONE, ONE), ("plus", SAME, ONE), ("test", SAME, STEP, STEP)):
            self.place(term, ())

    def test_the_first_part_that_is_no_value(self):
        for word in ("call", "pair", "plus", "minus", "times", "put"):
            self.place((word, STEP, STEP), (0,))
            self.place((word, STEP, ONE), (0,))
            self.place((word, ONE, STEP), (1,))
            self.place((word, SAME, ("pair", ONE, STEP)), (1, 1))
            self.place((word, ("pair", STEP, ONE), STEP), (0, 0))
        for word in ("first", "second", "box", "look", "say"):
            self.place((word, STEP), (0,))
            self.place((word, ("pair", ONE, STEP)), (0, 1))
        self.place(("test", STEP, STEP, STEP), (0,))
        self.place(("test", ("plus", ONE, STEP), STEP, STEP), (0, 1))

    def test_none_within_functions(self):
        self.place(("pair", ("fn", STEP), STEP), (1,))
        self.place(("call", ("fn", STEP), ONE), ())

    def test_faults_behind_a_place_that_comes_first(self):
        self.assertEqual(outcome_of(((), ("plus", ("first", ONE), STEP))), "kind")
        self.assertEqual(outcome_of(((), ("plus", STEP, ("first", ONE)))), "step")
        self.assertEqual(outcome_of(((), ("plus", SAME, STEP))), "step")
        self.assertEqual(outcome_of(((), ("call", ONE, STEP))), "step")
        self.assertEqual(outcome_of(((), ("pair", ("plus", MOST, ONE), ("first", ONE)))), "great")


class Steps(unittest.TestCase):
    def steps(self, term, behind, boxes=(), boxes_behind=(), said=()):
        self.assertEqual(next_of((boxes, term)), ("step", (boxes_behind, behind), said))
        self.assertEqual(outcome_of((boxes, term)), "step")

    def fault(self, outcome, term, boxes=()):
        self.assertEqual(next_of((boxes, term)), (outcome, tidied((boxes, term)), ()))
        self.assertEqual(outcome_of((boxes, term)), outcome)

    def test_call(self):
        self.steps(("call", ("fn", ("pair", name(0), ("fn", name(1)))), FIVE), ("pair", FIVE, ("fn", FIVE)))
        body = ("pair", ("pair", name(0), name(1)), ("fn", ("pair", name(1), name(2))))
        again = ("again", body)
        self.steps(("call", again, FIVE), ("pair", ("pair", FIVE, again), ("fn", ("pair", FIVE, again))))
        self.steps(("call", FOREVER, ONE), ("call", FOREVER, ONE))
        self.steps(("call", ("fn", TWO), ONE), TWO)

    def test_pairs(self):
        self.steps(("first", ("pair", ONE, TWO)), ONE)
        self.steps(("second", ("pair", ONE, TWO)), TWO)

    def test_test(self):
        self.steps(("test", ("number", 0), STEP, ("say", TWO)), STEP)
        for number in (1, -1, 999999999, -999999999):
            self.steps(("test", ("number", number), STEP, ("say", TWO)), ("say", TWO))

    def test_numbers(self):
        for left, right in ((3, 4), (-3, 4), (0, 0), (12, -12), (999999998, 1), (-999999998, -1), (0, 999999999)):
            one, other = ("number", left), ("number", right)
            self.steps(("plus", one, other), ("number", left + right))
            self.steps(("minus", one, ("number", -right)), ("number", left + right))
        for left, right in ((3, 4), (-3, 4), (-3, -4), (0, -999999999), (27027027, 37), (-37, 27027027),
                            (1, 999999999)):
            self.steps(("times", ("number", left), ("number", right)), ("number", left * right))
        self.steps(("minus", ("number", 3), ("number", 5)), ("number", -2))

    def test_great_numbers(self):
        for term in (("plus", MOST, ONE), ("plus", LEAST, ("number", -1)), ("minus", LEAST, ONE), ("plus", MOST, MOST),
                     ("minus", MOST, ("number", -1)), ("minus", ("number", 0), MOST), ("times", MOST, TWO),
                     ("times", ("number", 500000000), TWO), ("times", ("number", -500000000), TWO),
                     ("times", LEAST, MOST)):
            if term == ("minus", ("number", 0), MOST):
                self.steps(term, LEAST)
            else:
                self.fault("great", term)

    def test_boxes(self):
        self.steps(("box", ONE), at(0), (), (ONE,))
        self.steps(("pair", at(0), ("box", TWO)), ("pair", at(0), at(1)), (ONE,), (ONE, TWO))
        self.steps(("look", at(1)), TWO, (ONE, TWO), ())
        self.steps(("pair", ("look", at(1)), at(0)), ("pair", TWO, at(0)), (ONE, TWO), (ONE,))
        self.steps(("pair", ("put", at(0), TWO), at(0)), ("pair", TWO, at(0)), (ONE,), (TWO,))
        self.steps(("pair", ("put", at(1), TWO), ("pair", at(0), at(1))), ("pair", TWO, ("pair", at(0), at(1))),
                   (ONE, FIVE), (ONE, TWO))
        self.steps(("put", at(0), at(0)), at(0), (ONE,), (at(0),))
        self.steps(("box", at(0)), at(0), (ONE,), (at(1), ONE))

    def test_say(self):
        for number in (0, 7, -7, 999999999):
            self.steps(("say", ("number", number)), ("number", number), said=(number,))

    def test_wrong_sorts(self):
        wanted = {
            "first": ("pair",), "second": ("pair",), "look": ("at",), "say": ("number",), "box": tuple(SORTS),
        }
        for word, sorts in wanted.items():
            for sort, value in SORTS.items():
                self.assertEqual(outcome_of(((ONE,), (word, value))), "step" if sort in sorts else "kind")
        for sort, value in SORTS.items():
            self.assertEqual(outcome_of(((ONE,), ("call", value, ONE))), "step" if sort in ("fn", "again") else "kind")
            self.assertEqual(outcome_of(((ONE,), ("call", SAME, value))), "step")
            self.assertEqual(outcome_of(((ONE,), ("put", value, ONE))), "step" if sort == "at" else "kind")
            self.assertEqual(outcome_of(((ONE,), ("put", at(0), value))), "step")
            self.assertEqual(outcome_of(((ONE,), ("test", value, ONE, ONE))), "step" if sort == "number" else "kind")
            for word in ("plus", "minus", "times"):
                self.assertEqual(outcome_of(((ONE,), (word, value, ONE))), "step" if sort == "number" else "kind")
                self.assertEqual(outcome_of(((ONE,), (word, ONE, value))), "step" if sort == "number" else "kind")
                great = "step" if word == "minus" else "great"
                self.assertEqual(outcome_of(((ONE,), (word, value, MOST))), great if sort == "number" else "kind")
            self.assertEqual(outcome_of(((ONE,), ("pair", value, value))), "end")

    def test_a_fault_keeps_the_program_tidied(self):
        self.fault("kind", ("first", at(1)), (ONE, TWO))
        self.assertEqual(next_of(((ONE, TWO), ("first", at(1)))), ("kind", ((TWO,), ("first", at(0))), ()))

    def test_by_the_second_telling(self):
        outcomes = {"step": 0, "end": 0, "kind": 0, "great": 0}
        for seed in range(600):
            program = random_program(rng(seed), rng(seed).randrange(3, 9))
            if not is_program(program):
                continue
            for _ in range(25):
                wanted = plain_next(program)
                outcomes[wanted[0]] += 1
                self.assertEqual(place_of(program), plain_place(*program))
                self.assertEqual(outcome_of(program), wanted[0])
                if not is_program(wanted[1]):
                    self.assertRaises(TooGreat, next_of, program)
                    break
                self.assertEqual(next_of(program), wanted)
                self.assertEqual(next_of(tidied(program)), wanted)
                if wanted[0] != "step":
                    break
                program = wanted[1]
        self.assertGreater(min(outcomes.values()), 3, outcomes)


class Met(unittest.TestCase):
    def tidies(self, program, order, wanted):
        self.assertEqual(met(program), order)
        self.assertEqual(tidied(program), wanted)
        self.assertEqual(tidied(wanted), wanted)

    def test_from_left_to_right_each_once(self):
        term = ("pair", at(2), ("pair", at(0), ("pair", at(2), at(1))))
        self.tidies(((ONE, TWO, FIVE), term), (2, 0, 1),
                    ((FIVE, ONE, TWO), ("pair", at(0), ("pair", at(1), ("pair", at(0), at(2))))))

    def test_what_boxes_hold_box_by_box(self):
        boxes = (("pair", at(3), at(4)), ("pair", at(5), at(3)), ONE, TWO, FIVE, at(2))
        self.assertEqual(met((boxes, ("pair", at(1), at(0)))), (1, 0, 5, 3, 4, 2))
        self.assertEqual(met((boxes, at(0))), (0, 3, 4))
        self.assertEqual(met((boxes, at(5))), (5, 2))

    def test_in_functions(self):
        self.tidies(((ONE, TWO), ("fn", ("test", name(0), at(1), ("fn", at(0))))), (1, 0),
                    ((TWO, ONE), ("fn", ("test", name(0), at(0), ("fn", at(1))))))
        self.assertEqual(met(((("fn", at(1)), ("again", at(0))), at(1))), (1, 0))

    def test_rings(self):
        self.tidies(((at(1), at(0)), at(1)), (1, 0), ((at(1), at(0)), at(0)))
        self.tidies(((at(0),), at(0)), (0,), ((at(0),), at(0)))
        self.tidies(((at(1), at(2), at(0), at(3)), at(2)), (2, 0, 1), ((at(1), at(2), at(0)), at(0)))

    def test_never_met(self):
        self.tidies(((ONE, TWO), FIVE), (), ((), FIVE))
        self.tidies(((ONE, at(0), TWO), at(2)), (2,), ((TWO,), at(0)))

    def test_random(self):
        for seed in range(300):
            program = random_program(rng(seed), 6)
            if is_program(program):
                self.assertEqual(met(program), plain_met(program))
                self.assertEqual(tidied(program), plain_tidied(program))
                self.assertEqual(tidied(tidied(program)), tidied(program))
                self.assertEqual(place_of(tidied(program)), place_of(program))


class TooGreatSteps(unittest.TestCase):
    def test_lengths(self):
        twice = ("fn", ("pair", name(0), name(0)))
        for value, fits in ((values(749), True), (values(750), False)):
            program = ((), ("call", twice, value))
            if fits:
                self.assertEqual(next_of(program)[1], ((), ("pair", value, value)))
            else:
                self.assertRaises(TooGreat, next_of, program)
                self.assertRaises(TooGreat, go_on, program, 1)
                self.assertEqual(go_on(program, 0), (0, program, ()))
                self.assertEqual(outcome_of(program), "step")
                self.assertEqual(place_of(program), ())

    def test_lengths_around_the_place(self):
        # Behind the step: a pair, what stands beside the call, a pair, and the value twice.
        twice = ("fn", ("pair", name(0), name(0)))
        self.assertEqual(plain_length(next_of(((), ("pair", values(98), ("call", twice, values(700)))))[1][1]), 1500)
        self.assertRaises(TooGreat, next_of, ((), ("pair", values(99), ("call", twice, values(700)))))

    def test_lengths_of_boxes_count(self):
        term = ("pair", at(0), ("look", at(0)))
        held = values(748)
        self.assertEqual(next_of(((held,), term))[1], ((held,), ("pair", at(0), held)))
        held = values(749)
        self.assertEqual(next_of(((held,), term))[1], ((held,), ("pair", at(0), held)))
        held = values(750)
        self.assertRaises(TooGreat, next_of, ((held,), term))
        # Boxes that are met no more do not count.
        self.assertEqual(next_of(((held,), ("pair", ONE, ("look", at(0)))))[1], ((), ("pair", ONE, held)))
        self.assertEqual(next_of(((values(1400),), ("look", at(0))))[1], ((), values(1400)))

    def test_lengths_of_what_is_put_count(self):
        term = ("pair", at(0), ("put", at(0), values(749)))
        self.assertEqual(next_of(((ONE,), term))[0], "step")
        term = ("pair", at(0), ("put", at(0), values(750)))
        self.assertRaises(TooGreat, next_of, ((ONE,), term))

    def test_depths(self):
        body = deep_in_says(9, name(0))
        self.assertEqual(next_of(((), ("call", ("fn", body), pairs(50))))[0], "step")
        self.assertRaises(TooGreat, next_of, ((), ("call", ("fn", body), pairs(51))))
        self.assertEqual(next_of(((), ("say", ("call", ("fn", body), pairs(49)))))[0], "step")
        self.assertRaises(TooGreat, next_of, ((), ("say", ("call", ("fn", body), pairs(50)))))
        self.assertEqual(next_of(((pairs(58),), ("say", ("look", at(0)))))[0], "step")
        self.assertRaises(TooGreat, next_of, ((pairs(59),), ("say", ("look", at(0)))))

    def test_not_for_a_fault_nor_for_a_value(self):
        self.assertEqual(next_of(((), values(1500)))[0], "end")
        self.assertEqual(next_of(((), ("first", ("fn", values(1497)))))[0], "kind")

    def test_settled_without_building(self):
        # What would be built has tens of millions of bytes.
        for word in ("fn", "again"):
            program = ((), ("call", (word, long_term(749, name(0))), values(745)))
            self.assertTrue(is_program(program))
            self.assertLess(most_memory(lambda: self.assertRaises(TooGreat, next_of, program)), 5000000)
            self.assertLess(most_memory(lambda: self.assertRaises(TooGreat, go_on, program, 9)), 5000000)

    def test_many_steps_until_it_is_too_great(self):
        doubling = read_source((), "(call (again f x (call f (pair x x))) 1)")
        self.assertEqual(go_on(doubling, 8)[0], 8)
        made = 0
        while True:
            try:
                go_on(doubling, made + 1)
            except TooGreat:
                break
            made += 1
        # The value behind n steps has the length 2 ** (n + 1) - 1; around it stand 1 and again's 8.
        self.assertEqual(made, 9)
        self.assertRaises(TooGreat, go_on, doubling, 1000)


def deep_in_says(many, inner):
    for _ in range(many):
        inner = ("say", inner)
    return inner


class GoingOn(unittest.TestCase):
    def test_none(self):
        program = ((ONE, TWO), ("say", ("look", at(1))))
        self.assertEqual(go_on(program, 0), (0, ((TWO,), ("say", ("look", at(0)))), ()))
        self.assertEqual(go_on(program, 1), (1, ((), ("say", TWO)), ()))
        self.assertEqual(go_on(program, 2), (2, ((), TWO), (2,)))
        self.assertEqual(go_on(program, 3), (2, ((), TWO), (2,)))

    def test_it_stops_at_a_fault(self):
        program = ((ONE,), ("pair", ("say", FIVE), ("first", at(0))))
        self.assertEqual(go_on(program, 9), (1, ((ONE,), ("pair", FIVE, ("first", at(0)))), (5,)))

    def test_how_many(self):
        turning = ((), ("call", FOREVER, ONE))
        for steps in (0, 1, 999, 1000):
            self.assertEqual(go_on(turning, steps), (steps, turning, ()))
        for steps in [value for value in odd_values() if value != 0] + [1001, -1, "1", (1,), [1], 10 ** 399]:
            with self.assertRaises(InvalidNumber) as caught:
                go_on(turning, steps)
            self.assertIs(caught.exception.given, steps)
        for steps in (True, False):
            self.assertRaises(InvalidNumber, go_on, turning, steps)

    def test_ahead_of_too_great(self):
        program = ((), ("call", ("fn", ("pair", name(0), name(0))), values(800)))
        self.assertRaises(InvalidNumber, go_on, program, 1001)
        self.assertRaises(TooGreat, go_on, program, 1000)

    def test_all_that_is_said_in_order(self):
        counting = read_source((), "(call (again f x (test x 0 (call f (minus (say x) 1)))) 4)")
        self.assertEqual(go_on(counting, 1000)[1:], (((), ("number", 0)), (4, 3, 2, 1)))
        found = [go_on(counting, steps)[2] for steps in range(20)]
        for earlier, later in zip(found, found[1:]):
            self.assertEqual(later[:len(earlier)], earlier)

    def test_some_steps_and_some_more(self):
        for seed in range(150):
            row = rng(seed)
            program = random_program(row, 7)
            if not is_program(program):
                continue
            first, second = row.randrange(8), row.randrange(8)
            try:
                whole = go_on(program, first + second)
            except TooGreat:
                continue
            made, middle, said = go_on(program, first)
            more, behind, told = go_on(middle, second)
            self.assertEqual((made + more, behind, said + told), whole)

    def test_other_orders_of_boxes(self):
        for seed in range(200):
            row = rng(seed)
            boxes, term = random_program(row, 6)
            if not is_program((boxes, term)):
                continue
            order = row.sample(range(len(boxes) + 2), len(boxes))
            turned = [ONE] * (len(boxes) + 2)
            for number, box in zip(order, boxes):
                turned[number] = led_to(box, order)
            other = (tuple(turned), led_to(term, order))
            self.assertTrue(is_program(other))
            self.assertEqual(tidied(other), tidied((boxes, term)))
            try:
                wanted = go_on((boxes, term), 20)
            except TooGreat:
                self.assertRaises(TooGreat, go_on, other, 20)
            else:
                self.assertEqual(go_on(other, 20), wanted)

    def test_other_names_in_texts(self):
        one = read_source((), "(boxes a 4 b (fn x (put a x)) (call b 7))")
        other = read_source((), "(boxes say 4 x (fn a (put say a)) (call x 7))")
        self.assertEqual(go_on(one, 9), go_on(other, 9))


def led_to(term, order):
    """The term with the ats led to boxes elsewhere."""
    if term[0] == "at":
        return ("at", order[term[1]])
    if term[0] in ("number", "name"):
        return term
    return (term[0],) + tuple([led_to(part, order) for part in term[1:]])


class LongPrograms(unittest.TestCase):
    def test_length_of_the_helper(self):
        for length in (1, 3, 4, 5, 6, 10, 98, 99, 700, 748, 1400, 1499, 1500):
            self.assertEqual(plain_length(values(length)), length)
            self.assertTrue(is_value(values(length)))

    def test_go_on_over_a_long_program(self):
        program = ((), ("pair", values(1200), ("call", FOREVER, ONE)))
        self.assertEqual(go_on(program, 20), (20, program, ()))
        self.assertEqual(outcome_of(((), long_term(1500))), "step")


if __name__ == "__main__":
    unittest.main()
