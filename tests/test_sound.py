"""Points 42 to 44: the rules of the judge, their order, the least places, the frames, and what stays sound."""

import unittest

from formstead.collector import (
    begun_great, begun_small, collected, fetched, great_step, moved, reached, small_step,
)
from formstead.errors import InvalidMemory, NoRoom, NotNow, NotThere
from formstead.layout import laid_out_words
from formstead.machine import makes_step, outcome, stepped
from formstead.memory import frames, in_use, laid_out, led_to, object_at, objects, read_register
from formstead.rows import code_of
from formstead.runs import run
from formstead.sound import first_wrong, is_sound
from tests.helpers import odd_values, rng
from tests.machines import (
    BUSY, ROOMY, SMALL_SIZES, a, begin, free_words_are_not_read, m, n, random_machine, random_sizes, source,
    with_free_words_changed, with_words,
)
from tests.plain_judge import plain_first_wrong
from tests.plain_rest import NAMES, registers
from tests.wild import wild_memory

DEEP = "(call (again f x (test x 0 (plus (say x) (call f (minus x 1))))) 12)"
CLOSURE, PAIR, BOX = 35, 71, 43


def place_of(name):
    return NAMES.index(name)


def wild_with(is_wanted, tries=60000):
    """The first wild memory of which something holds."""
    for seed in range(tries):
        memory = wild_memory(rng(seed))
        if memory is not None and is_wanted(memory, registers(memory)):
            return memory
    raise AssertionError("there is none")


def amid_both(memory, told):
    """Whether both collections go on, and there is something of every sort to be broken."""
    if not told["great"] or not told["small"] or not told["kept"] < told["many"] > 2 or told["step"] == told["top"]:
        return False
    if len(frames(memory)) < 3 or not frames(memory)[0][2] or told["look"] == told["old"]:
        return False
    nursery, other = objects(memory, "nursery"), objects(memory, "other")
    unmoved = [kind for _, kind, copy in nursery if copy is None]
    return "pair" in unmoved and len(unmoved) < len(nursery) > 2 and 2 < len(other) and told["left"] > 3


BOTH = wild_with(amid_both)
PLAIN = run(begin(DEEP, ROOMY), 60)[0]


class Base(unittest.TestCase):
    def wrong(self, memory, rule, place):
        self.assertEqual(first_wrong(memory), (rule, place))
        self.assertIs(is_sound(memory), False)
        with self.assertRaises(InvalidMemory) as caught:
            run(memory, None)
        self.assertEqual(caught.exception.index, place)

    def sound(self, memory):
        self.assertIsNone(first_wrong(memory))
        self.assertIs(is_sound(memory), True)

    def later(self, memory, rule):
        """The rule holds; whether one behind it does is not asked."""
        found = first_wrong(memory)
        self.assertTrue(found is None or found[0] > rule, found)


class Rule0(Base):
    def test_no_tuple(self):
        for value in odd_values() + [PLAIN[:25], (), list(PLAIN), (4,) * 25, [4] * 26]:
            if not isinstance(value, tuple) or len(value) < 26:
                self.assertEqual(first_wrong(value), (0, None))
                self.assertEqual(first_wrong(value=value), (0, None))
                self.assertIs(is_sound(value=value), False)

    def test_just_26_words(self):
        self.assertEqual(first_wrong((4,) * 26), (1, 0))
        self.assertEqual(first_wrong((2,) * 26), (2, 17))
        self.assertEqual(first_wrong((2,) * 25 + (True,)), (0, 25))

    def test_no_word(self):
        for word in (True, False, None, "4", -1, -2, -3, (4,), [4], 4 * 10 ** 9, -4 * 10 ** 9, 4 * 10 ** 9 + 1,
                     4 * 10 ** 9 + 2, 3, 7, 11, 15, 39, 75, 4 * 8 * 10 ** 9 + 3, 10 ** 399, "x"):
            for place in (0, 26, 100, len(PLAIN) - 1):
                self.wrong(with_words(PLAIN, {place: word}), 0, place)
        self.wrong(with_words(PLAIN, {300: True, 200: None}), 0, 200)

    def test_words_at_their_bounds(self):
        free = len(PLAIN) - 3
        self.assertFalse(in_use(PLAIN, free))
        for word in (4 * 999999999, -4 * 999999999, 1, 4 * 999999999 + 1, 2, 4 * 999999999 + 2, 35,
                     4 * 8 * 999999999 + 3, PAIR, BOX, 67):
            self.sound(with_words(PLAIN, {free: word}))


class Rule1(Base):
    def test_registers_are_marks(self):
        for place in range(26):
            for word in (n(0), n(-1), a(3), CLOSURE, PAIR):
                self.wrong(with_words(PLAIN, {place: word}), 1, place)
        self.wrong(with_words(PLAIN, {25: 4, 9: 4}), 1, 9)


class Rule2(Base):
    def test_bodies_and_rows(self):
        self.wrong(with_words(PLAIN, {17: m(0)}), 2, 17)
        self.wrong(with_words(PLAIN, {18: m(0)}), 2, 18)
        for name in ("bodies", "rows"):
            told = read_register(PLAIN, name)
            for number in (told - 1, told + 1, 999999999):
                self.wrong(with_words(PLAIN, {place_of(name): m(number)}), 2, 19)

    def test_stack(self):
        for by in (-1, 1, 500):
            self.wrong(with_words(PLAIN, {19: m(read_register(PLAIN, "stack") + by)}), 2, 19)
        self.wrong(with_words(PLAIN, {19: m(0)}), 2, 19)

    def test_areas(self):
        code = code_of(source(DEEP))
        for place, index, least, most in ((20, 0, 20, 200), (21, 1, 1, 40), (22, 2, 12, 60), (23, 3, 20, 400),
                                          (24, 4, 1, 9)):
            for size in (least - 1, least, most, most + 1):
                sizes = [30, 5, 20, 50, 3]
                sizes[index] = size
                # In what was laid out no frame stands: that is told by rule 6, if the sizes are right.
                wanted = (6, 2) if least <= size <= most else (2, place)
                self.assertEqual(first_wrong(tuple(laid_out_words(tuple(sizes), code))), wanted)

    def test_how_many_words(self):
        for memory in (PLAIN + (0,), PLAIN[:-1], PLAIN + (0, 0), PLAIN * 2):
            self.wrong(memory, 2, 23)
        for memory in (laid_out(SMALL_SIZES, code_of(source("5"))), laid_out(ROOMY, code_of(source(DEEP)))):
            self.assertEqual(first_wrong(memory), (6, 2))

    def test_the_first_one_counts(self):
        told = registers(PLAIN)
        self.wrong(with_words(PLAIN, {24: m(0), 23: m(told["size"] + 1)}), 2, 23)
        self.wrong(with_words(PLAIN, {22: m(told["first"] + 1), 21: m(told["nursery"] + 1)}), 2, 21)
        self.wrong(with_words(PLAIN, {17: m(0), 18: m(0)}), 2, 17)


class Rule3(Base):
    def test_words_of_bodies_and_rows(self):
        rows = 26 + 3 * read_register(PLAIN, "bodies")
        for place in range(26, read_register(PLAIN, "stack")):
            is_number = place >= rows and (place - rows) % 3 == 1 and PLAIN[place - 1] == m(0)
            for word in (a(30), CLOSURE, m(1) if is_number else n(1)):
                self.wrong(with_words(PLAIN, {place: word}), 3, place)

    def test_the_word_of_a_number_may_be_any_number(self):
        memory = begin("(plus 1 2)")
        self.assertEqual(memory[29:32], (m(0), n(1), m(0)))
        for number in (0, -1, 999999999, -999999999):
            self.sound(with_words(memory, {30: n(number)}))
        # Row plus becomes a number: its A has to be one.
        self.wrong(with_words(memory, {35: m(0)}), 3, 36)


class Rule4(Base):
    def body_words(self, words, place):
        memory = begin("(pair (fn x x) (again f x f))")
        self.assertEqual(memory[26:35], (m(0), m(0), m(0), m(4), m(0), m(0), m(6), m(1), m(0)))
        told = with_words(memory, words)
        if place is None:
            self.later(told, 4)
        else:
            self.wrong(told, 4, place)

    def test_each_word(self):
        rows = 8
        self.body_words({26: m(1)}, 26)
        self.body_words({27: m(1)}, 27)
        for place in (28, 31 + 0, 34):
            self.body_words({place: m(1500)} if place != 31 else {31: m(1500)}, None)
            self.body_words({place: m(1501)}, place)
            self.body_words({place: m(999999999)}, place)
        for place in (30, 33):
            self.body_words({place: m(2)}, place)
            self.body_words({place: m(1 if place == 30 else 0)}, None)
        for first, place in ((0, 29), (rows, 29), (999999999, 29), (1, None), (5, None), (6, 32), (7, 32)):
            self.body_words({29: m(first)}, place)
        for first, place in ((4, 32), (3, 32), (5, None), (7, None), (8, 32)):
            self.body_words({32: m(first)}, place)
        self.body_words({34: m(1501), 33: m(2), 31: m(1501)}, 31)


class Rule5(Base):
    def test_the_first_word_of_the_first_row_that_breaks_the_shape(self):
        memory = begin("(pair (fn x x) (again f x f))")
        rows = 35
        self.assertEqual(memory[rows + 9:rows + 12], (m(7), m(0), m(0)))
        for row, words in (
                (0, {rows: m(13)}), (0, {rows: m(99)}), (0, {rows + 1: m(0)}), (0, {rows + 1: m(3)}),
                (0, {rows + 2: m(1)}), (2, {rows + 6: m(5), rows + 9: m(6)} | {rows + 8: m(1)}), (3, {rows + 10: m(1)}),
                (3, {rows + 9: m(6)}), (5, {rows + 15: m(6)}), (6, {rows + 18: m(1)}), (7, {rows + 23: m(2)}),
                (4, {rows + 12: m(3)}), (3, {rows + 9: m(2)}), (7, {rows + 21: m(2)}),
        ):
            self.wrong(with_words(memory, words), 5, rows + 3 * row)
        self.wrong(with_words(memory, {rows + 21: m(2), rows + 12: m(3)}), 5, rows + 12)
        self.later(with_words(memory, {rows + 18: m(2)}), 5)

    def test_tests(self):
        memory = begin("(plus (test 0 1 2) 3)")
        rows = read_register(memory, "stack") - 3 * read_register(memory, "rows")
        # Row 1 is the test, row 3 its go; told another row, the test is one at the end, to which no go belongs.
        self.wrong(with_words(memory, {rows + 3 + 1: m(5)}), 5, rows + 9)
        self.wrong(with_words(memory, {rows + 9 + 1: m(6)}), 5, rows + 18)
        self.wrong(with_words(memory, {rows + 9 + 1: m(4)}), 5, rows + 3)


class Rule6(Base):
    def bounds(self, memory, name, least, most):
        """Within the bounds the rule holds, beyond them it does not, and the place is that of the register."""
        place = place_of(name)
        for number in (least, most):
            self.later(with_words(memory, {place: m(number)}), 6)
        for number in (least - 1, most + 1, 999999999):
            if number >= 0:
                self.wrong(with_words(memory, {place: m(number)}), 6, place)

    def in_each_status(self, memories):
        for memory in memories:
            for status in range(5):
                yield with_words(memory, {0: m(status)}), registers(memory)

    def test_always(self):
        memories = (PLAIN, BOTH, begun_small(PLAIN), begun_great(begin(DEEP, ROOMY)))
        for memory, told in self.in_each_status(memories):
            self.bounds(memory, "status", 0, 4)
            self.bounds(memory, "row", 0, told["rows"] - 1)
            self.bounds(memory, "young", told["nursery"], told["first"])
            self.wrong(with_words(memory, {7: m(2)}), 6, 7)
            self.wrong(with_words(memory, {8: m(2)}), 6, 8)
            most = told["nursery"] - told["remembered"]
            self.later(with_words(memory, {14: m(most)}), 6)
            self.wrong(with_words(memory, {14: m(most + 1)}), 6, 14)
            self.later(with_words(memory, {14: m(told["kept"] if told["small"] else 0)}), 6)
            self.later(with_words(memory, {2: m(told["stack"])}), 6)
            self.later(with_words(memory, {2: m(told["top"])}), 6)
            self.wrong(with_words(memory, {2: m(told["stack"] - 1)}), 6, 2)
            self.wrong(with_words(memory, {2: m(told["top"] + 1)}), 6, 2)

    def test_base_and_top(self):
        told = registers(PLAIN)
        self.bounds(PLAIN, "base", told["stack"], told["top"])
        self.later(with_words(PLAIN, {3: m(told["base"])}), 6)
        self.later(with_words(PLAIN, {3: m(told["remembered"])}), 6)
        self.wrong(with_words(PLAIN, {3: m(told["base"] - 1)}), 6, 2)
        self.wrong(with_words(PLAIN, {3: m(told["remembered"] + 1)}), 6, 3)
        self.wrong(with_words(PLAIN, {2: m(0)}), 6, 2)
        self.wrong(with_words(PLAIN, {3: m(told["stack"] - 1)}), 6, 2)
        ended = run(begin("5"), 9)[0]
        stack = read_register(ended, "stack")
        self.assertEqual([outcome(ended), read_register(ended, "base")], ["ended", 0])
        self.later(with_words(ended, {2: m(stack)}), 6)
        self.later(with_words(ended, {2: m(stack + 1)}), 6)
        self.wrong(with_words(ended, {2: m(stack + 2)}), 6, 2)
        self.wrong(with_words(ended, {2: m(1)}), 6, 2)
        self.bounds(ended, "top", stack, read_register(ended, "remembered"))
        for status in (0, 2, 3, 4):
            self.wrong(with_words(ended, {0: m(status)}), 6, 2)

    def test_old_and_half(self):
        told = registers(PLAIN)
        first, size = told["first"], told["size"]
        self.bounds(PLAIN, "old", first, first + size)
        for half in (first - 1, first + 1, first + size - 1, first + size + 1, 0, 999999999):
            words = {6: m(half), 5: m(half)}
            self.wrong(with_words(PLAIN, words), 6, 6)
        self.later(with_words(PLAIN, {6: m(first + size), 5: m(first + size)}), 6)

    def test_great(self):
        for memory, told in self.in_each_status((begun_great(begin(DEEP, ROOMY)), BOTH)):
            other = 2 * told["first"] + told["size"] - told["half"]
            self.bounds(memory, "scan", told["half"], told["old"])
            self.bounds(memory, "low", told["stack"], told["top"])
            self.bounds(memory, "left", 0, told["size"])
            self.bounds(memory, "owed", 0, told["pace"])
            self.bounds(memory, "edge", other, other + told["size"])
            for number in (2, 3, 999999999):
                self.wrong(with_words(memory, {7: m(number)}), 6, 7)

    def test_no_great(self):
        for memory, _ in self.in_each_status((PLAIN, begun_small(PLAIN))):
            for name in ("left", "owed", "edge"):
                self.bounds(memory, name, 0, 0)
            for number in (0, 1, 50, 999999999):
                self.later(with_words(memory, {9: m(number), 10: m(number)}), 6)
                self.sound(with_words(PLAIN, {9: m(number), 10: m(number)}))

    def test_small(self):
        for memory, told in self.in_each_status((begun_small(PLAIN), BOTH)):
            self.bounds(memory, "look", told["half"], told["old"])
            self.bounds(memory, "step", told["stack"], told["top"])
            self.bounds(memory, "kept", 0, told["many"])
            for number in (2, 3, 999999999):
                self.wrong(with_words(memory, {8: m(number)}), 6, 8)

    def test_no_small(self):
        for memory in (PLAIN, begun_great(begin(DEEP, ROOMY))):
            for number in (0, 1, 50, 999999999):
                self.sound(with_words(memory, {11: m(number), 12: m(number), 13: m(number)}))

    def test_the_least_place_counts(self):
        told = registers(BOTH)
        words = {25: m(0), 16: m(99), 14: m(99), 4: m(0), 1: m(told["rows"])}
        self.wrong(with_words(BOTH, words), 6, 1)
        del words[1], words[4]
        self.wrong(with_words(BOTH, words), 6, 14)


class Rules7And8(Base):
    def test_headers_in_the_half_in_use(self):
        for memory in (PLAIN, BOTH):
            for place, _, copy in objects(memory, "half"):
                self.assertIsNone(copy)
                for word in (n(1), a(read_register(memory, "half")), m(0)):
                    self.wrong(with_words(memory, {place: word}), 7, place)

    def test_the_last_field_at_the_end_and_beyond(self):
        memory = begin("(boxes b (pair 1 2) b)")
        old = read_register(memory, "old")
        self.assertEqual(memory[old - 3], PAIR)
        for by in (1, 2):
            self.wrong(with_words(memory, {5: m(old - by)}), 7, old - 3)
        self.later(with_words(memory, {5: m(old - 3)}), 7)
        self.wrong(with_words(memory, {5: m(old + 1)}), 7, old)
        self.wrong(with_words(memory, {old - 3: 4 * 8 * 3 + 3}), 7, old - 3)
        self.later(with_words(memory, {old - 3: 4 * 8 * 2 + 3}), 7)
        self.wrong(with_words(memory, {old - 3: 4 * 8 * 999999999 + 3}), 7, old - 3)
        end = read_register(memory, "half") + read_register(memory, "size")
        words = {5: m(end)}
        if (end - old) % 2 == 0:
            words[old] = PAIR
            old += 3
        words |= {place: BOX for place in range(old, end, 2)}
        self.wrong(with_words(memory, words), 7, end - 1)
        self.sound(with_words(memory, words | {5: m(end - 1)}))

    def test_headers_in_the_nursery(self):
        memory = run(begin("(pair (pair 1 2) (pair 3 (say 4)))", ROOMY), 6)[0]
        nursery, young = read_register(memory, "nursery"), read_register(memory, "young")
        self.assertEqual(objects(memory, "nursery"), ((nursery, "pair", None),))
        half = read_register(memory, "half")
        for word in (n(1), a(half), a(nursery), m(0)):
            self.wrong(with_words(memory, {nursery: word}), 8, nursery)
        self.wrong(with_words(memory, {4: m(young - 1)}), 8, nursery)
        self.wrong(with_words(memory, {4: m(young + 1)}), 8, young)
        self.wrong(with_words(memory, {nursery: 4 * 8 * 3 + 3}), 8, nursery)

    def test_signposts_in_the_nursery(self):
        memory = begun_small(run(begin("(pair (pair 1 2) (pair 3 (say 4)))", ROOMY), 7)[0])
        nursery, half, old = [read_register(memory, name) for name in ("nursery", "half", "old")]
        behind = moved(memory, nursery)[0]
        self.assertEqual(behind[nursery], a(old))
        self.sound(behind)
        # Only to the place of an object in the half in use, and with room for its fields.
        for word in (a(old + 1), a(nursery), a(old + 3), n(old), m(old), a(0), a(999999999)):
            self.wrong(with_words(behind, {nursery: word}), 8, nursery)
        self.wrong(with_words(behind, {4: m(nursery + 2)}), 8, nursery)
        # A closure with one field in the place of the pair: then a header is due where none stands.
        self.wrong(with_words(behind, {nursery: a(half)}), 8, nursery + 2)
        self.wrong(with_words(behind, {8: m(0)}), 8, nursery)

    def test_the_other_half(self):
        memory = begun_great(begin("(boxes b (pair 1 2) (pair b b))", (20, 4, 20, 100, 1)))
        other, edge = read_register(memory, "first"), read_register(memory, "edge")
        self.assertEqual([copy for _, _, copy in objects(memory, "other")], [None] * 3)
        for place, _, _ in objects(memory, "other"):
            for word in (n(1), m(0), a(other)):
                self.wrong(with_words(memory, {place: word}), 8, place)
        self.wrong(with_words(memory, {25: m(edge - 1)}), 8, edge - 3)
        behind, copy = moved(memory, other)
        self.assertEqual(behind[other], a(copy))
        self.sound(behind)
        self.wrong(with_words(behind, {other: a(copy + 1)}), 8, other)
        self.wrong(with_words(behind, {25: m(other + 1)}), 8, other)
        # While no great one goes on nothing is asked of it.
        memory = begin("5")
        self.sound(with_words(memory, {place: a(3) for place in range(len(memory) - 20, len(memory))}))

    def test_the_nursery_comes_first(self):
        told = registers(BOTH)
        nursery = told["nursery"]
        other = objects(BOTH, "other")[0][0]
        self.wrong(with_words(BOTH, {other: 0, nursery: 0}), 8, nursery)
        self.wrong(with_words(BOTH, {other: 0}), 8, other)


class Rule9(Base):
    def test_remembered_boxes(self):
        text = "(boxes b 1 c 2 d (pair 1 2) (test (first (put b (pair 3 4))) 0 (put c (pair 5 (box 6)))))"
        memory = run(begin(text, (20, 4, 30, 100, 1)), 16)[0]
        told = registers(memory)
        begin_of, half = told["remembered"], told["half"]
        self.assertEqual(told["many"], 2)
        box = [place for place, kind, _ in objects(memory, "nursery") if kind == "box"]
        pair = [place for place, kind, _ in objects(memory, "half") if kind == "pair"]
        closure = [place for place, kind, _ in objects(memory, "half") if kind == "closure"]
        words = [n(half), m(half), PAIR, a(half + 1), a(0), a(begin_of + 2), a(box[0]), a(pair[0]), a(closure[0])]
        for at in (0, 1):
            for word in words:
                self.wrong(with_words(memory, {begin_of + at: word}), 9, begin_of + at)
            # Behind those that are in use anything may stand.
            for word in words:
                self.sound(with_words(memory, {begin_of + 2: word, begin_of + 3: word}))
        self.wrong(with_words(memory, {14: m(3), begin_of + 2: n(1)}), 9, begin_of + 2)
        self.sound(with_words(memory, {14: m(3), begin_of + 2: a(half)}))

    def test_amid_a_great_one_a_copy_and_no_signpost(self):
        memory = begun_great(begin("(boxes b 1 c 2 (pair b c))", (20, 4, 20, 100, 1)))
        behind, copy = moved(memory, read_register(memory, "first"))
        place = read_register(memory, "remembered")
        self.sound(with_words(behind, {14: m(1), place: a(copy)}))
        self.wrong(with_words(behind, {14: m(1), place: a(read_register(memory, "first"))}), 9, place)
        self.wrong(with_words(behind, {14: m(1), place: a(read_register(memory, "first") + 2)}), 9, place)


class Rule10(Base):
    def test_the_first_field_of_a_closure(self):
        memory = begin("(boxes b (fn x b) (pair b (fn y 1)))")
        places = [place for place, kind, _ in objects(memory, "half") if kind == "closure"]
        self.assertEqual([memory[place + 1] for place in places], [m(0), m(1)])
        for place, rights in zip(places, ((0, 1), (0, 1))):
            for word in (n(0), a(place), m(3), m(999999999), m(2)):
                self.wrong(with_words(memory, {place + 1: word}), 10, place + 1)
            # Another body that has captured as many things.
            for right in rights:
                self.later(with_words(memory, {place + 1: m(right)}), 10)

    def test_fields_are_numbers_and_addresses_of_objects(self):
        memory = run(begin("(pair (pair 1 2) (box (pair 5 (say 4))))", ROOMY), 9)[0]
        told = registers(memory)
        for name in ("nursery", "half"):
            for place, kind, _ in objects(memory, name):
                fields = {"closure": (), "pair": (1, 2), "box": (1,)}[kind]
                for field in fields:
                    for word in (m(0), PAIR, a(place + 1), a(told["young"]), a(told["old"]), a(0), a(999999999),
                                 a(told["stack"]), a(told["half"] + told["size"])):
                        self.wrong(with_words(memory, {place + field: word}), 10, place + field)
                    self.sound(with_words(memory, {place + field: n(-999999999)}))
                    self.sound(with_words(memory, {place + field: a(told["half"])}))

    def test_from_the_nursery(self):
        memory = with_words(BOTH, {})
        half = read_register(memory, "half")
        nursery, other = objects(memory, "nursery"), objects(memory, "other")
        found = [place for place, kind, copy in nursery if copy is None and kind == "pair"][0]
        self.sound(with_words(memory, {found + 1: a(half)}))
        self.later(with_words(memory, {found + 1: a(nursery[0][0])}), 10)
        for place, _, _ in other:
            self.wrong(with_words(memory, {found + 1: a(place)}), 10, found + 1)

    def test_from_the_half_in_use_to_the_nursery(self):
        text = "(boxes b 1 c (pair 2 3) (test (first (put b (pair 3 4))) 0 (pair 5 6)))"
        memory = run(begin(text, (20, 4, 30, 100, 1)), 9)[0]
        told = registers(memory)
        half, nursery = told["half"], told["nursery"]
        self.assertEqual([told["many"], memory[half + 1]], [1, a(nursery)])
        pair = [place for place, kind, _ in objects(memory, "half") if kind == "pair"][0]
        self.wrong(with_words(memory, {half + 3: a(nursery)}), 10, half + 3)
        self.wrong(with_words(memory, {pair + 2: a(nursery)}), 10, pair + 2)
        self.wrong(with_words(memory, {14: m(0)}), 10, half + 1)
        # Of the words beside the remembered ones none is asked.
        self.wrong(with_words(memory, {half + 3: a(nursery), told["remembered"] - 1: a(half + 2)}), 10, half + 3)
        self.wrong(with_words(memory, {half + 3: a(nursery), told["remembered"] + 1: a(half + 2)}), 10, half + 3)
        # A small one asks the remembered boxes from kept on, and what stands at look or above.
        amid = begun_small(memory)
        self.sound(amid)
        self.wrong(with_words(amid, {13: m(1)}), 10, half + 1)
        for look, fits in ((half + 1, True), (half, True), (half + 2, False)):
            told = with_words(amid, {13: m(1), 11: m(look)})
            self.sound(told) if fits else self.wrong(told, 10, half + 1)
        for look, fits in ((pair + 2, True), (pair + 3, False)):
            told = with_words(amid, {pair + 2: a(nursery), 11: m(look)})
            self.sound(told) if fits else self.wrong(told, 10, pair + 2)

    def test_from_the_half_in_use_to_the_other_one(self):
        memory = begun_great(begin("(boxes b (pair 1 (pair 2 3)) c 2 (pair b c))", (20, 4, 20, 100, 1)))
        first = read_register(memory, "first")
        pair = [place for place, kind, _ in objects(memory, "other") if kind == "pair"][0]
        behind, copy = moved(memory, pair)
        self.assertEqual(behind[copy + 2], a(pair + 3))
        self.sound(behind)
        for scan, fits in ((copy, True), (copy + 2, True), (copy + 3, False)):
            told = with_words(behind, {9: m(scan)})
            self.sound(told) if fits else self.wrong(told, 10, copy + 2)
        # From the other half only within it, to signposts, too.
        self.sound(with_words(behind, {first + 3: a(pair)}))
        self.wrong(with_words(behind, {first + 3: a(copy)}), 10, first + 3)

    def test_from_the_other_half_to_the_nursery(self):
        # Amid both collections, too, and whichever of the two halves is the one in use.
        for first_in_use in (True, False):
            memory = wild_with(lambda memory, told: told["great"] and told["small"] and told["young"] > told["nursery"]
                               and told["left"] > 2 and (told["half"] == told["first"]) is first_in_use)
            nursery = objects(memory, "nursery")[0][0]
            for place, kind, copy in objects(memory, "other"):
                fields = {"closure": [], "pair": [1, 2], "box": [1]}[kind] if copy is None else []
                for field in fields:
                    self.wrong(with_words(memory, {place + field: a(nursery)}), 10, place + field)

    def test_what_was_moved_is_not_asked(self):
        memory = begun_great(begin("(boxes b (pair 1 2) (pair b b))", (20, 4, 20, 100, 1)))
        pair = [place for place, kind, _ in objects(memory, "other") if kind == "pair"][0]
        behind = moved(memory, pair)[0]
        for word in (m(5), PAIR, a(0)):
            self.sound(with_words(behind, {pair + 1: word, pair + 2: word}))

    def test_the_least_place_counts(self):
        half = [place + 1 for place, kind, _ in objects(BOTH, "half")]
        other = [place + 1 for place, kind, copy in objects(BOTH, "other") if copy is None]
        nursery = [place + 1 for place, kind, copy in objects(BOTH, "nursery") if copy is None]
        for places in (half + other, half + other + nursery, half[1:] + other, other):
            self.wrong(with_words(BOTH, {place: a(1) for place in places}), 10, min(places))


class Rule11(Base):
    def test_words_of_the_stack(self):
        told = registers(PLAIN)
        for place in range(told["stack"], told["top"]):
            for word in (CLOSURE, PAIR, a(told["half"] + 1), a(told["young"]), a(told["old"]), a(0), a(place)):
                self.wrong(with_words(PLAIN, {place: word}), 11, place)
        for place in range(told["top"], told["remembered"]):
            self.sound(with_words(PLAIN, {place: PAIR}))

    def test_the_nursery_from_step_on(self):
        memory = run(begin("(pair (pair 1 2) (say 5))", ROOMY), 4)[0]
        told = registers(memory)
        place = told["stack"] + 4
        self.assertEqual(memory[place], a(told["nursery"]))
        amid = begun_small(memory)
        for step, fits in ((told["stack"], True), (place, True), (place + 1, False)):
            changed = with_words(amid, {12: m(step)})
            self.sound(changed) if fits else self.wrong(changed, 11, place)

    def test_the_other_half_from_low_on(self):
        memory = begun_great(begin("(pair 1 2)", (20, 4, 20, 100, 1)))
        place = read_register(memory, "base")
        for low, fits in ((place - 2, True), (place, True), (place + 1, False), (place + 2, False)):
            changed = with_words(memory, {10: m(low)})
            self.sound(changed) if fits else self.wrong(changed, 11, place)

    def test_the_least_place_counts(self):
        stack, top = read_register(BOTH, "stack"), read_register(BOTH, "top")
        self.wrong(with_words(BOTH, {top - 1: PAIR, stack: a(1)}), 11, stack)


class Rule12(Base):
    def test_ended(self):
        memory = run(begin("(pair 1 2)"), 9)[0]
        told = registers(memory)
        stack = told["stack"]
        self.sound(memory)
        self.wrong(with_words(memory, {1: m(1)}), 12, 1)
        self.wrong(with_words(memory, {2: m(stack)}), 12, 2)
        self.wrong(with_words(memory, {3: m(stack)}), 12, 3)
        self.wrong(with_words(memory, {3: m(stack + 2), stack + 1: n(1)}), 12, 3)
        self.wrong(with_words(memory, {stack: m(0)}), 12, stack)
        self.sound(with_words(memory, {stack: n(5)}))
        self.wrong(with_words(memory, {1: m(1), 2: m(stack), 3: m(stack), stack: m(7)}), 12, 1)
        self.wrong(with_words(memory, {2: m(stack), 3: m(stack), stack: m(7)}), 12, 2)
        self.wrong(with_words(memory, {3: m(stack), stack: m(7)}), 12, 3)

    def frames(self):
        """A memory with three frames: the place where each begins, and the one behind the last."""
        memory = PLAIN
        for steps in range(400):
            memory = run(begin(DEEP, ROOMY), steps)[0]
            told = frames(memory)
            if len(told) == 4 and len(told[0][2]) == 2 and told[0][2][1] % 4 == 1:
                break
        bases = [base for base, _, _ in frames(memory)][::-1]
        return memory, bases

    def test_the_base(self):
        memory, bases = self.frames()
        told = registers(memory)
        self.assertEqual(len(bases), 4)
        for base in (told["stack"], told["stack"] + 1, told["top"] - 1, told["top"]):
            self.wrong(with_words(memory, {2: m(base)}), 12, 2)
        # That of a caller is told in the frame that it called.
        for called, caller in ((bases[3], bases[2]), (bases[1], bases[0])):
            for base in (0, told["stack"], told["stack"] + 1, called - 3, called - 2, called, 999999999):
                self.wrong(with_words(memory, {called - 1: m(base)}), 12, called - 1)

    def test_the_closure(self):
        memory, bases = self.frames()
        numbers = [n(0), n(1), m(0)]
        for base in bases:
            for word in numbers:
                self.wrong(with_words(memory, {base: word}), 12, base)
        text = "(call (fn x (pair x 1)) (pair 5 6))"
        memory = run(begin(text, ROOMY), 6)[0]
        base = read_register(memory, "base")
        self.assertEqual(memory[base + 1] % 4, 1)
        self.wrong(with_words(memory, {base: memory[base + 1]}), 12, base)

    def test_the_row(self):
        memory, bases = self.frames()
        places = [len(operands) for _, _, operands in frames(memory)]
        rows = registers(memory)["rows"]
        right = read_register(memory, "row")
        for row in range(rows):
            changed = with_words(memory, {1: m(row)})
            if first_wrong(changed) is not None:
                self.wrong(changed, 12, 1)
        self.sound(with_words(memory, {1: m(right)}))
        self.assertEqual(places, [2, 1, 1, 1])
        for called in bases[1:]:
            told = memory[called - 2]
            for row in list(range(rows)) + [rows, 999999999]:
                if m(row) != told:
                    self.wrong(with_words(memory, {called - 2: m(row)}), 12, called - 2)

    def test_a_caller_goes_on_behind_a_call(self):
        # Behind the call and behind the say there is one operand each.
        memory = run(begin("(say (say (call (fn x x) 3)))", ROOMY), 3)[0]
        base = read_register(memory, "base")
        self.assertEqual([len(frames(memory)), memory[base - 2]], [2, m(3)])
        for row in (1, 4, 5):
            self.wrong(with_words(memory, {base - 2: m(row)}), 12, base - 2)
        # Of the running frame no call is asked.
        here = run(begin("(say (say (call (fn x x) 3)))", ROOMY), 5)[0]
        self.assertEqual([len(frames(here)), read_register(here, "row")], [1, 3])
        for row, fits in ((3, True), (4, True), (5, True), (1, True), (2, False), (0, False), (6, False)):
            changed = with_words(here, {1: m(row)})
            self.sound(changed) if fits else self.wrong(changed, 12, 1)

    def test_marks_among_operands(self):
        memory, bases = self.frames()
        ends = [base - 2 for base in bases[1:]] + [read_register(memory, "top")]
        for base, end in zip(bases, ends):
            for place in range(base + 1, end):
                self.wrong(with_words(memory, {place: m(0)}), 12, place)
                self.wrong(with_words(memory, {later: m(5) for later in range(place, end)}), 12, place)

    def test_the_marks_ahead(self):
        memory, bases = self.frames()
        for base in bases:
            for place in (base - 2, base - 1):
                for word in (n(0), a(read_register(memory, "half"))):
                    self.wrong(with_words(memory, {place: word}), 12, place)
            self.wrong(with_words(memory, {base - 2: n(0), base - 1: n(0)}), 12, base - 2)
        stack = read_register(memory, "stack")
        self.wrong(with_words(memory, {stack: m(1)}), 12, stack)
        self.wrong(with_words(memory, {stack + 1: m(1)}), 12, stack + 1)
        self.wrong(with_words(memory, {stack + 1: m(1), stack: m(1)}), 12, stack)

    def test_the_first_frame_settles_the_place(self):
        memory, bases = self.frames()
        # The checks of one frame come in their order, whatever the places are.
        last = bases[3]
        words = {last - 2: n(0), last + 1: m(0), last: n(0), 1: m(0)}
        self.wrong(with_words(memory, words), 12, last)
        del words[last]
        self.wrong(with_words(memory, words), 12, 1)
        del words[1]
        self.wrong(with_words(memory, words), 12, last + 1)
        del words[last + 1]
        self.wrong(with_words(memory, words), 12, last - 2)
        self.wrong(with_words(memory, {2: m(0 + bases[0] - 1), last: n(0)}), 12, 2)
        # The running frame comes ahead of its caller, this one ahead of the bottom one.
        self.wrong(with_words(memory, {bases[0]: n(0), bases[3]: n(0)}), 12, bases[3])
        self.wrong(with_words(memory, {bases[0]: n(0), bases[2] + 1: m(0)}), 12, bases[2] + 1)
        self.wrong(with_words(memory, {bases[0] - 2: m(3), bases[2] - 2: n(0)}), 12, bases[2] - 2)

    def test_a_base_one_above_the_bottom_one(self):
        memory = begin("(pair 1 2)", ROOMY)
        stack, half = read_register(memory, "stack"), read_register(memory, "half")
        changed = with_words(memory, {2: m(stack + 3), 3: m(stack + 5), stack + 3: a(half), stack + 4: n(0)})
        self.assertEqual(changed[stack + 1:stack + 3], (m(0), a(half)))
        self.wrong(changed, 12, stack + 2)
        self.wrong(with_words(changed, {stack + 2: m(stack + 2)}), 12, stack + 2)
        self.wrong(with_words(changed, {stack + 2: m(0), stack + 1: n(0)}), 12, stack + 1)


class Rule13(Base):
    def test_left(self):
        memory = begun_great(begin("(boxes b (pair 1 2) (pair b b))", (20, 4, 20, 100, 1)))
        left = read_register(memory, "left")
        self.assertEqual(left, 2 + 3 + 3)
        for number in (0, left - 1, left + 1, 100):
            told = with_words(memory, {15: m(number)})
            self.wrong(told, 13, 15)
        behind = moved(memory, read_register(memory, "first"))[0]
        self.assertEqual(read_register(behind, "left"), left - 2)
        self.sound(behind)
        self.wrong(with_words(behind, {15: m(left)}), 13, 15)

    def full(self, text, steps, left):
        """A memory in which boxes fill the half in use until its room is LEFT."""
        memory = run(begin(text, (20, 1, 12, 41, 1)), steps)[0]
        words, old = list(memory), read_register(memory, "old")
        end = read_register(memory, "half") + 41 - left
        while old < end:
            many = 2 if end - old != 3 else 3
            words[old:old + many] = [BOX, 0] if many == 2 else [PAIR, 0, 0]
            old += many
        words[5] = m(old)
        return tuple(words)

    def test_room(self):
        for left in (0, 3, 5):
            self.sound(self.full("(pair (pair 1 2) (say 5))", 4, left))
        # While a small one goes on it has to be as much as what was not moved of the nursery.
        for left, fits in ((3, True), (2, False), (0, False), (4, True)):
            memory = self.full("(pair (pair 1 2) (say 5))", 4, left)
            self.assertEqual(read_register(memory, "young") - read_register(memory, "nursery"), 3)
            amid = with_words(memory, {8: m(1), 11: m(read_register(memory, "old")),
                                       12: m(read_register(memory, "stack")), 13: m(0)})
            self.sound(amid) if fits else self.wrong(amid, 13, 5)
            if left == 3:
                behind = moved(amid, read_register(memory, "nursery"))[0]
                self.assertEqual(read_register(behind, "old"), read_register(memory, "half") + 41)
                self.sound(behind)

    def test_room_below_what_is_left(self):
        memory = begun_great(begin("(boxes b (pair 1 2) (pair b b))", (20, 4, 12, 20, 1)))
        half, left = read_register(memory, "half"), read_register(memory, "left")
        boxes = {half + k: BOX if k % 2 == 0 else 0 for k in range(14)}
        self.sound(with_words(memory, {5: m(half + 12)} | boxes))
        self.wrong(with_words(memory, {5: m(half + 14)} | boxes), 13, 5)
        boxes[half + 10], boxes[half + 11], boxes[half + 12] = PAIR, 0, 0
        self.wrong(with_words(memory, {5: m(half + 13)} | boxes), 13, 5)
        boxes[half + 10], boxes[half + 12] = BOX, BOX
        # With both wrong that of old is told.
        self.wrong(with_words(memory, {5: m(half + 14), 15: m(left + 1)} | boxes), 13, 5)
        self.wrong(with_words(memory, {5: m(half + 14), 15: m(0)} | boxes), 13, 15)


class Rule14(Base):
    def memory(self, text="(pair (pair 1 2) (pair (pair 3 4) (say 5)))", steps=8):
        memory = run(begin(text, ROOMY), steps)[0]
        return memory, read_register(memory, "nursery")

    def test_rings(self):
        memory, nursery = self.memory()
        self.assertEqual([place for place, _, _ in objects(memory, "nursery")], [nursery, nursery + 3])
        for words, place in (
                ({1: a(0)}, 0), ({2: a(0)}, 0), ({4: a(3)}, 3), ({1: a(3), 4: a(0)}, 0), ({4: a(3), 1: a(3)}, 0),
                ({4: a(3), 5: a(0)}, 3), ({1: a(0), 4: a(3)}, 0), ({1: a(3), 2: a(3), 5: a(0)}, 0),
        ):
            told = {nursery + at: a(nursery + word // 4) for at, word in words.items()}
            self.wrong(with_words(memory, told), 14, nursery + place)
        self.sound(with_words(memory, {nursery + 4: a(nursery), nursery + 5: a(nursery)}))

    def test_through_closures(self):
        memory, nursery = self.memory("(call (fn x (pair (fn y x) (fn z x))) 7)", 7)
        self.assertEqual([kind for _, kind, _ in objects(memory, "nursery")], ["closure", "closure", "closure"])
        two, three = [place for place, _, _ in objects(memory, "nursery")][1:]
        self.wrong(with_words(memory, {two + 2: a(two)}), 14, two)
        self.wrong(with_words(memory, {two + 2: a(three), three + 2: a(two)}), 14, two)
        self.wrong(with_words(memory, {two + 2: a(three), three + 2: a(three)}), 14, two)
        self.sound(with_words(memory, {two + 2: a(three)}))
        # The first field is no way, whatever body it tells.
        self.sound(memory)

    def test_no_ring_through_a_box(self):
        memory = begin("(boxes b (pair b (fn x b)) c b (pair b c))", ROOMY)
        self.sound(memory)
        half = read_register(memory, "half")
        self.sound(with_words(memory, {half + 1: a(half)}))
        pair = [place for place, kind, _ in objects(memory, "half") if kind == "pair"][0]
        # A box that leads into a ring is no way itself.
        self.wrong(with_words(memory, {pair + 1: a(pair)}), 14, pair)

    def test_through_signposts(self):
        memory, nursery = self.memory()
        behind, copy = moved(begun_small(memory), nursery + 3)
        self.sound(behind)
        told = with_words(behind, {nursery + 1: a(nursery + 3), copy + 1: a(nursery)})
        self.wrong(told, 14, nursery)
        self.wrong(with_words(behind, {copy + 1: a(nursery + 3)}), 14, copy)
        self.wrong(with_words(behind, {copy + 1: a(copy)}), 14, copy)
        self.sound(with_words(behind, {nursery + 1: a(nursery + 3), nursery + 2: a(copy)}))

    def test_objects_that_nothing_reaches(self):
        memory = run(begin("(pair (first (pair 1 2)) (say 3))", ROOMY), 5)[0]
        nursery = read_register(memory, "nursery")
        self.assertNotIn(nursery, reached(memory))
        self.wrong(with_words(memory, {nursery + 1: a(nursery)}), 14, nursery)


class Rule15(Base):
    def test_faults(self):
        for text, status in (("(first 1)", 2), ("(plus (fn x x) 1)", 2), ("(plus 999999999 1)", 3)):
            memory = run(begin(text, ROOMY), 9)[0]
            self.assertEqual(memory[0], m(status))
            self.sound(memory)
            self.sound(with_words(memory, {0: m(0)}))
            for other in {2, 3, 4} - {status}:
                self.wrong(with_words(memory, {0: m(other)}), 15, 0)

    def test_out_of_room(self):
        memory = run(begin(BUSY[1], SMALL_SIZES), 9999)[0]
        self.assertEqual(outcome(memory), "room")
        self.sound(memory)
        self.sound(with_words(memory, {0: m(0)}))
        for other in (2, 3):
            self.wrong(with_words(memory, {0: m(other)}), 15, 0)

    def test_what_would_not_set_it(self):
        for memory in (PLAIN, begun_small(PLAIN), begun_great(begin(DEEP, ROOMY)), BOTH, begin("5")):
            for status in (2, 3, 4):
                self.wrong(with_words(memory, {0: m(status)}), 15, 0)
        failed = run(begin("(first 1)", (20, 4, 20, 100, 3)), 9)[0]
        # A step that comes ahead of the row would not set it.
        told = registers(failed)
        other = told["half"] + 100
        great = {7: m(1), 25: m(told["old"]), 15: m(2), 6: m(other), 5: m(other), 9: m(other), 10: m(told["stack"])}
        self.sound(with_words(failed, great))
        self.wrong(with_words(failed, great | {16: m(1)}), 15, 0)
        self.wrong(with_words(failed, {8: m(1), 11: m(told["old"]), 12: m(told["stack"]), 13: m(0)}), 15, 0)

    def test_ended_is_not_asked(self):
        memory = run(begin("(pair 1 2)", ROOMY), 9)[0]
        self.sound(memory)
        told = registers(memory)
        amid = with_words(memory, {8: m(1), 11: m(told["old"]), 12: m(told["stack"]), 13: m(0)})
        self.sound(amid)
        self.assertEqual(read_register(small_step(amid), "step"), told["stack"] + 1)


class Order(Base):
    def breakers(self):
        """For each rule words that break it alone, and the place, in a memory amid both collections."""
        told = registers(BOTH)
        rows = 26 + 3 * told["bodies"]
        pair = [place for place, kind, copy in objects(BOTH, "nursery") if copy is None and kind == "pair"][0]
        nursery, half = objects(BOTH, "nursery")[-1][0], objects(BOTH, "half")[-1][0]
        field = [place + 1 for place, kind, copy in objects(BOTH, "other") if copy is None][0]
        operand = told["top"] - 1
        return [
            ({len(BOTH) - 1: True}, len(BOTH) - 1), ({11: n(told["look"])}, 11), ({24: m(0)}, 24),
            ({rows: n(1)}, rows), ({28: m(1501)}, 28), ({told["stack"] - 3: m(99)}, told["stack"] - 3),
            ({16: m(99)}, 16), ({half: n(0)}, half), ({nursery: n(0)}, nursery),
            ({told["remembered"]: n(0)}, told["remembered"]), ({field: PAIR}, field), ({operand: PAIR}, operand),
            ({told["base"]: n(0)}, told["base"]), ({15: m(told["left"] - 1)}, 15), ({pair + 1: a(pair)}, pair),
            ({0: m(2)}, 0),
        ]

    def test_each_rule_alone(self):
        for rule, (words, place) in enumerate(self.breakers()):
            self.wrong(with_words(BOTH, words), rule, place)

    def test_each_rule_beside_another(self):
        breakers = self.breakers()
        for rule, (words, place) in enumerate(breakers):
            for later, (more, _) in enumerate(breakers):
                if later > rule:
                    self.wrong(with_words(with_words(BOTH, more), words), rule, place)
        for rule in range(16):
            told = BOTH
            for words, _ in breakers[:rule - 1:-1] if rule else breakers[::-1]:
                told = with_words(told, words)
            self.wrong(told, rule, breakers[rule][1])


class AgainstASecondJudge(unittest.TestCase):
    def changed(self, row, memory):
        words = list(memory)
        for _ in range(row.choice([1, 1, 1, 2, 3])):
            place = row.choice([row.randrange(26), row.randrange(26, len(memory))])
            for _ in range(20):
                if in_use(memory, place):
                    break
                place = row.randrange(26, len(memory))
            old = memory[place]
            words[place] = row.choice([
                old + 4, old - 4, old + 1, old + 2, old - 1, old + 8, memory[row.randrange(len(memory))],
                n(row.randrange(-3, 3)), a(row.randrange(len(memory))), m(row.randrange(5)),
                m(row.randrange(len(memory))), 71, 43, 35, 67, True,
            ])
        return tuple(words)

    def memories(self, seeds):
        for seed in range(seeds):
            row = rng(seed)
            memory = wild_memory(row) if seed % 2 else random_machine(row)[1]
            if memory is not None:
                memory = run(memory, row.randrange(300))[0]
                if row.randrange(3) == 0 and not read_register(memory, "status") + read_register(memory, "small"):
                    try:
                        memory = run(begun_small(memory), row.randrange(20))[0]
                    except NoRoom:
                        pass
                yield row, memory

    def test_words_changed(self):
        met = {}
        for row, memory in self.memories(500):
            self.assertIsNone(first_wrong(memory))
            self.assertIsNone(plain_first_wrong(memory))
            for _ in range(20):
                changed = self.changed(row, memory)
                found = first_wrong(changed)
                self.assertEqual(found, plain_first_wrong(changed))
                met[found and found[0]] = met.get(found and found[0], 0) + 1
        self.assertEqual(set(met), set(range(16)) | {None})


class StaySound(unittest.TestCase):
    def assert_sound(self, memory):
        self.assertIsNone(first_wrong(memory))

    def check_fetches(self, memory):
        """What lies in the stack, and in the fields of objects that were not moved, may be fetched."""
        words = [word for _, _, operands in frames(memory) for word in operands]
        words += [memory[base + at] for base, _, _ in frames(memory) for at in (0, 1)]
        for name in ("nursery", "half", "other"):
            for place, kind, copy in objects(memory, name):
                if copy is None:
                    words += object_at(memory, place)[1][1 if kind == "closure" else 0:]
        for word in set(words):
            behind, found = fetched(memory, word)
            self.assert_sound(behind)
            self.assertIn(found, (word, a(led_to(behind, word) or 0)))

    def check_moves(self, memory):
        for name in ("nursery", "half", "other"):
            for place, _, copy in objects(memory, name):
                try:
                    behind, found = moved(memory, place)
                except NotThere:
                    continue
                self.assert_sound(behind)
                self.assertEqual(found, copy if copy is not None else read_register(memory, "old"))

    def check_collections(self, memory):
        for begin_one, step, name in ((begun_small, small_step, "small"), (begun_great, great_step, "great")):
            try:
                here = begin_one(memory)
            except (NotNow, NoRoom):
                continue
            self.assert_sound(here)
            self.check_moves(here)
            self.check_fetches(here)
            while read_register(here, name) and not (name == "great" and read_register(here, "small")):
                here = step(here)
                self.assert_sound(here)
        if outcome(memory) != "room":
            whole = collected(memory)
            if whole is not None:
                self.assert_sound(whole)
                self.assertEqual([place for place, _, _ in objects(whole, "half")], list(reached(whole)))
                again = collected(whole)
                self.assertNotEqual(read_register(again, "half"), read_register(whole, "half"))
                self.assertEqual([row[1:] for row in objects(again, "half")], [row[1:] for row in objects(whole, "half")])

    def test_machines(self):
        for seed in range(120):
            row = rng(seed)
            memory = random_machine(row)[1]
            if memory is None:
                continue
            self.assert_sound(memory)
            for _ in range(60):
                memory = stepped(memory)[0]
                self.assert_sound(memory)
                if row.randrange(15) == 0:
                    self.check_collections(memory)
            self.assert_sound(run(memory, 1000)[0])

    def test_wild_memories(self):
        for seed in range(400):
            memory = wild_memory(rng(seed))
            if memory is None:
                continue
            self.assert_sound(memory)
            self.check_moves(memory)
            self.check_fetches(memory)
            self.check_collections(memory)
            for _ in range(25):
                memory = stepped(memory)[0]
                self.assert_sound(memory)
            self.check_collections(memory)

    def test_from_all_sizes(self):
        for text in BUSY:
            for sizes in (SMALL_SIZES, ROOMY, (20, 40, 12, 400, 9), (200, 1, 60, 20, 1), random_sizes(rng(5))):
                memory = begin(text, sizes)
                for _ in range(12):
                    self.assert_sound(memory)
                    memory = run(memory, 37)[0]

    def test_free_words_may_be_anything(self):
        for seed in range(150):
            row = rng(seed)
            memory = wild_memory(row) if seed % 2 else random_machine(row)[1]
            if memory is None:
                continue
            memory = run(memory, row.randrange(200))[0]
            changed = with_free_words_changed(row, memory)
            self.assert_sound(changed)
            self.assertEqual(outcome(changed), outcome(memory))
            self.assertEqual(makes_step(changed), makes_step(memory))
            self.assertTrue(free_words_are_not_read(row, memory, lambda told: stepped(told)[0]))
            self.assertTrue(free_words_are_not_read(row, memory, lambda told: run(told, 20)[0]))
            if outcome(memory) != "room":
                self.assertTrue(free_words_are_not_read(row, memory, collected))


if __name__ == "__main__":
    unittest.main()
