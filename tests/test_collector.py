"""Points 37 to 41: the room, small and great collections step by step, whole ones, and what is reached."""

import unittest

from formstead.collector import (
    begun_great, begun_small, collected, fetched, great_step, moved, reached, room, small_step,
)
from formstead.errors import InvalidNumber, NoRoom, NotNow, NotThere
from formstead.machine import outcome, stepped
from formstead.memory import led_to, object_at, objects, read_register
from formstead.runs import run
from tests.helpers import odd_values, rng
from tests.machines import (
    BUSY, ROOMY, a, assert_sound, begin, changes, free_words_are_not_read, m, n, random_machine,
    with_free_words_changed, with_words,
)
from tests.plain_machine import Machine, after
from tests.plain_rest import plain_rest, registers

PAIRS = "(boxes b 1 c (pair b 2) (pair (put b (pair 3 c)) (pair 4 (box 5))))"


def filled(memory, left):
    """The memory with boxes that nothing needs in the half in use, until its room is LEFT."""
    words, old = list(memory), read_register(memory, "old")
    while room(memory) - (old - read_register(memory, "old")) > left:
        words[old:old + 2] = [43, n(0)]
        old += 2
    words[5] = m(old)
    return tuple(words)


class Room(unittest.TestCase):
    def test_room(self):
        memory = begin("(boxes a 1 a)", (20, 1, 12, 37, 1))
        self.assertEqual(room(memory), 37 - 2 - 3)
        great = begun_great(memory)
        self.assertEqual(room(great), 37 - 5)
        for _ in range(40):
            self.assertEqual(room(memory=great), 37 + read_register(great, "half") - read_register(great, "old")
                             - read_register(great, "left"))
            great = stepped(great)[0]
        self.assertEqual(outcome(great), "ended")


class SmallCollections(unittest.TestCase):
    def test_begun(self):
        memory = run(begin(PAIRS, ROOMY), 8)[0]
        told = registers(memory)
        self.assertEqual(changes(memory, begun_small(memory)), {8: m(1), 11: m(told["old"]), 12: m(told["stack"])})
        kept = with_words(memory, {13: m(7)})
        self.assertEqual(read_register(begun_small(kept), "kept"), 0)
        self.assertEqual(begun_small(memory=memory), begun_small(memory))

    def test_begun_not_now(self):
        memory = run(begin(PAIRS, ROOMY), 8)[0]
        self.assertRaises(NotNow, begun_small, begun_small(memory))
        for text, status in (("5", "ended"), ("(first 1)", "kind"), ("(plus 999999999 1)", "great")):
            ended = run(begin(text), 9)[0]
            self.assertEqual(outcome(ended), status)
            self.assertRaises(NotNow, begun_small, ended)
        out = with_words(memory, {0: m(4)})
        self.assertRaises(NotNow, begun_small, out)

    def test_begun_with_just_enough_room(self):
        memory = run(begin("(pair (pair (pair 1 2) 3) (say 4))", (20, 1, 12, 21, 1)), 5)[0]
        self.assertEqual(read_register(memory, "young") - read_register(memory, "nursery"), 6)
        full = filled(memory, 7)
        self.assertEqual(room(full), 7)
        begun_small(full)
        over = filled(memory, 6)
        self.assertEqual(room(over), 5)
        self.assertRaises(NoRoom, begun_small, over)
        # NotNow comes ahead.
        self.assertRaises(NotNow, begun_small, with_words(over, {0: m(2)}))
        self.assertRaises(NotNow, begun_small, with_words(over, {8: m(1)}))

    def test_amid_a_great_one(self):
        memory = begun_great(begin(PAIRS, ROOMY))
        behind = run(memory, 14)[0]
        self.assertEqual(read_register(behind, "great"), 1)
        self.assertEqual(read_register(begun_small(behind), "small"), 1)

    def test_steps_one_by_one(self):
        memory = run(begin(PAIRS, (20, 4, 20, 100, 1)), 6)[0]
        told = registers(memory)
        nursery, half, stack, old = told["nursery"], told["half"], told["stack"], told["old"]
        # On the stack: two marks, the closure, 0, the pair; the pair stands in the box, too, which is remembered.
        self.assertEqual(memory[told["remembered"]], a(half))
        self.assertEqual([told["many"], told["top"]], [1, stack + 6])
        here = begun_small(memory)
        for step in range(4):
            here, before = small_step(here), here
            self.assertEqual(changes(before, here), {12: m(stack + step + 1)})
        here, before = small_step(here), here
        self.assertEqual(changes(before, here), {
            12: m(stack + 5), 5: m(old + 3), stack + 4: a(old), nursery: a(old), old: 71, old + 1: n(3),
            old + 2: memory[nursery + 2],
        })
        here, before = small_step(here), here
        self.assertEqual(changes(before, here), {12: m(stack + 6)})
        here, before = small_step(here), here
        self.assertEqual(changes(before, here), {13: m(1), half + 1: a(old)})
        for step in range(3):
            here, before = small_step(here), here
            self.assertEqual(changes(before, here), {11: m(old + step + 1)})
        here, before = small_step(here), here
        self.assertEqual(changes(before, here), {8: m(0), 14: m(0), 4: m(nursery)})
        self.assertRaises(NotNow, small_step, here)
        self.assertEqual(small_step(memory=begun_small(memory)), small_step(begun_small(memory)))

    def test_each_remembered_box_in_turn(self):
        text = "(boxes b 1 c 2 (test (first (put b (pair 3 4))) 0 (test (first (put c (pair 5 6))) 0 7)))"
        memory = run(begin(text, (20, 4, 20, 100, 1)), 14)[0]
        told = registers(memory)
        nursery, half, stack, old = told["nursery"], told["half"], told["stack"], told["old"]
        # Nothing but the two boxes leads to the two pairs.
        self.assertEqual([told["many"], told["top"], told["young"]], [2, stack + 4, nursery + 6])
        here = begun_small(memory)
        for _ in range(4):
            here = small_step(here)
        for kept, number in ((0, 3), (1, 5)):
            here, before = small_step(here), here
            pair, copy = nursery + 3 * kept, old + 3 * kept
            self.assertEqual(changes(before, here), {
                13: m(kept + 1), 5: m(copy + 3), half + 2 * kept + 1: a(copy), pair: a(copy), copy: 71,
                copy + 1: n(number), copy + 2: n(number + 1),
            })

    def test_what_is_moved_is_looked_at_later(self):
        memory = run(begin("(pair (pair (pair 1 2) 3) (say 4))", (20, 1, 12, 40, 1)), 5)[0]
        old, stack = read_register(memory, "old"), read_register(memory, "stack")
        here = begun_small(memory)
        for _ in range(5):
            here = small_step(here)
        self.assertEqual(here[stack + 4], a(old))
        self.assertEqual(read_register(here, "old"), old + 3)
        here = small_step(small_step(here))
        self.assertEqual(here[old:old + 6], (71, a(old + 3), n(3), 71, n(1), n(2)))
        self.assertEqual(read_register(here, "look"), old + 2)

    def test_each_object_is_moved_once(self):
        memory = run(begin("(call (fn x (pair x (pair x x))) (pair 1 2))", (20, 1, 30, 100, 1)), 9)[0]
        old = read_register(memory, "old")
        here = begun_small(memory)
        while read_register(here, "small"):
            here = small_step(here)
        self.assertEqual([kind for _, kind, _ in objects(here, "half")], ["closure", "closure", "pair", "pair"])
        self.assertEqual(here[old + 5:old + 8], (71, a(old + 2), a(old + 2)))
        self.assertEqual(plain_rest(here), plain_rest(memory))

    def test_not_now(self):
        for memory in (begin("5"), begun_great(begin("5")), run(begin("5"), 2)[0]):
            self.assertRaises(NotNow, small_step, memory)

    def ends_with_room(self, left, size=100):
        """The memory ahead of the end of a small collection of an empty nursery of 12, with so much room."""
        memory = filled(begin("(boxes b 1 (pair 1 2))", (20, 1, 12, size, 1)), left)
        self.assertEqual(room(memory), left)
        here = begun_small(memory)
        for _ in range(4):
            here = small_step(here)
        return here

    def test_a_great_one_begins_in_the_last_step(self):
        here = self.ends_with_room(25)
        self.assertEqual(changes(here, small_step(here)), {8: m(0)})
        here = self.ends_with_room(23)
        behind = small_step(here)
        told = registers(here)
        self.assertEqual(changes(here, behind), {
            8: m(0), 7: m(1), 25: m(told["old"]), 15: m(told["old"] - told["half"]), 6: m(told["half"] + 100),
            5: m(told["half"] + 100), 9: m(told["half"] + 100), 10: m(told["stack"]),
        })
        # Twice the nursery: 24 is enough.
        even = self.ends_with_room(24, 99)
        self.assertEqual(read_register(small_step(even), "great"), 0)

    def test_none_begins_while_one_goes_on(self):
        memory = run(begun_great(begin(PAIRS, (20, 4, 12, 30, 1))), 20)[0]
        self.assertEqual(read_register(memory, "great"), 1)
        here = begun_small(memory)
        edge = read_register(here, "edge")
        while read_register(here, "small"):
            here = small_step(here)
        self.assertEqual([read_register(here, "great"), read_register(here, "edge")], [1, edge])


class GreatCollections(unittest.TestCase):
    def test_begun(self):
        memory = begin(PAIRS, (20, 4, 20, 100, 7))
        told = registers(memory)
        half, old, other = told["half"], told["old"], told["half"] + 100
        behind = begun_great(with_words(memory, {10: m(0), 16: m(3)}))
        self.assertEqual(changes(memory, behind), {
            7: m(1), 25: m(old), 15: m(old - half), 6: m(other), 5: m(other), 9: m(other), 10: m(told["stack"]),
        })
        while read_register(behind, "great"):
            behind = great_step(behind)
        again = begun_great(behind)
        self.assertEqual([read_register(again, name) for name in ("half", "old", "scan")], [half] * 3)
        self.assertEqual(begun_great(memory=memory), begun_great(memory))

    def test_begun_not_now(self):
        memory = begin("(boxes b 1 (put b (pair 3 4)))", (20, 4, 20, 100, 1))
        self.assertRaises(NotNow, begun_great, begun_great(memory))
        self.assertRaises(NotNow, begun_great, begun_small(memory))
        self.assertRaises(NotNow, begun_great, run(memory, 4)[0])
        for place in (0, 7, 8, 14):
            self.assertRaises(NotNow, begun_great, with_words(memory, {place: m(1)}))
        young = read_register(memory, "young")
        self.assertRaises(NotNow, begun_great, with_words(memory, {4: m(young + 2)}))
        for text in ("5", "(first 1)", "(plus 999999999 1)"):
            self.assertRaises(NotNow, begun_great, run(begin(text), 9)[0])

    def test_steps_one_by_one(self):
        memory = begin("(boxes a 1 b (pair a 2) (pair a b))", (20, 1, 12, 40, 1))
        told = registers(memory)
        half, stack, other = told["half"], told["stack"], told["half"] + 40
        here = begun_great(memory)
        for step in (1, 2):
            here, before = great_step(here), here
            self.assertEqual(changes(before, here), {10: m(stack + step)})
        here, before = great_step(here), here
        # The closure and what it has captured: 4 words of the 11.
        self.assertEqual(changes(before, here), {
            10: m(stack + 3), stack + 2: a(other), 5: m(other + 4), 15: m(7), half + 4: a(other), other: 99,
            other + 1: m(0), other + 2: a(half), other + 3: a(half + 2),
        })
        here, before = great_step(here), here
        self.assertEqual(changes(before, here), {10: m(stack + 4)})
        for step in (1, 2):
            here, before = great_step(here), here
            self.assertEqual(changes(before, here), {9: m(other + step)})
        here, before = great_step(here), here
        self.assertEqual(changes(before, here), {
            9: m(other + 3), other + 2: a(other + 4), 5: m(other + 6), 15: m(5), half: a(other + 4), other + 4: 43,
            other + 5: n(1),
        })
        here, before = great_step(here), here
        self.assertEqual(changes(before, here), {
            9: m(other + 4), other + 3: a(other + 6), 5: m(other + 8), 15: m(3), half + 2: a(other + 6), other + 6: 43,
            other + 7: a(half + 8),
        })
        while read_register(here, "scan") < read_register(here, "old"):
            here = great_step(here)
        self.assertEqual(here[other + 8:other + 11], (71, a(other + 4), n(2)))
        here = with_words(here, {16: m(1)})
        behind = great_step(here)
        self.assertEqual(changes(here, behind), {7: m(0), 25: m(0), 16: m(0)})
        self.assertRaises(NotNow, great_step, behind)

    def test_what_was_not_needed_is_left(self):
        memory = run(begin("(boxes a 1 b 2 (pair 1 2))", (20, 1, 12, 40, 1)), 9)[0]
        whole = collected(memory)
        self.assertEqual([kind for _, kind, _ in objects(whole, "half")], ["pair"])
        self.assertEqual(read_register(whole, "left"), 0)

    def test_left_falls_to_nothing_at_the_end(self):
        here = begun_great(begin("(boxes a 1 b 2 (pair 1 2))", (20, 1, 12, 40, 1)))
        base = read_register(here, "base")
        here = with_words(here, {base: 0 * 4})
        # Without the closure nothing is needed; all that was still left is given up.
        while read_register(here, "great"):
            left, here = read_register(here, "left"), great_step(here)
        self.assertEqual([left, read_register(here, "left")], [8, 0])

    def test_it_leaves_owed_as_it_is(self):
        here = begun_great(begin(PAIRS, ROOMY))
        for owed in (0, 1, 9):
            self.assertEqual(read_register(great_step(with_words(here, {16: m(owed)})), "owed"), owed)
        self.assertEqual(great_step(memory=here), great_step(here))

    def test_not_now(self):
        memory = begin(PAIRS, ROOMY)
        self.assertRaises(NotNow, great_step, memory)
        self.assertRaises(NotNow, great_step, begun_small(memory))
        self.assertRaises(NotNow, great_step, begun_small(begun_great(memory)))
        # In any status.
        ended = with_words(begun_great(memory), {0: m(4)})
        self.assertEqual(read_register(great_step(ended), "low"), read_register(ended, "low") + 1)
        small = with_words(begun_small(memory), {0: m(1)})
        self.assertEqual(read_register(small_step(small), "step"), read_register(small, "step") + 1)


class Moving(unittest.TestCase):
    def test_in_a_small_collection(self):
        memory = run(begin("(pair (pair 1 2) (box 3))", (20, 1, 12, 40, 1)), 5)[0]
        here = begun_small(memory)
        nursery, old = read_register(here, "nursery"), read_register(here, "old")
        behind, copy = moved(here, nursery + 3)
        self.assertEqual(copy, old)
        self.assertEqual(changes(here, behind), {5: m(old + 2), nursery + 3: a(old), old: 43, old + 1: n(3)})
        self.assertEqual(moved(behind, nursery + 3), (behind, old))
        again, copy = moved(behind, nursery)
        self.assertEqual(copy, old + 2)
        self.assertEqual(changes(behind, again), {5: m(old + 5), nursery: a(old + 2), old + 2: 71, old + 3: n(1),
                                                  old + 4: n(2)})
        self.assertEqual(moved(place=nursery, memory=here), moved(here, nursery))

    def test_in_a_great_collection(self):
        here = begun_great(begin("(boxes a 1 b 2 (pair a b))", (20, 1, 12, 40, 1)))
        told = registers(here)
        half = told["first"]
        behind, copy = moved(here, half + 2)
        self.assertEqual(copy, told["old"])
        self.assertEqual(changes(here, behind), {5: m(copy + 2), 15: m(6), half + 2: a(copy), copy: 43, copy + 1: n(2)})
        self.assertEqual(moved(behind, half + 2), (behind, copy))

    def test_not_there(self):
        memory = run(begin("(boxes a 1 (pair (pair 1 2) (box a)))", (20, 1, 12, 40, 1)), 5)[0]
        nursery, half = read_register(memory, "nursery"), read_register(memory, "half")
        for place in (nursery, nursery + 3, half, 0, 999999999, len(memory)):
            self.assertRaises(NotThere, moved, memory, place)
        small = begun_small(memory)
        for place in (nursery + 1, nursery + 2, nursery + 4, nursery + 5, nursery + 11, half, half + 2, 0, 5,
                      half + 40, 999999999):
            self.assertRaises(NotThere, moved, small, place)
        great = begun_great(begin("(boxes a 1 b 2 (pair a b))", (20, 1, 12, 40, 1)))
        half = read_register(great, "first")
        for place in (half + 1, half + 3, half + 5, half + 8, half + 40, nursery, read_register(great, "stack")):
            self.assertRaises(NotThere, moved, great, place)
        self.assertEqual(moved(great, half)[1], half + 40)

    def test_amid_both(self):
        memory = begun_great(begin(PAIRS, (20, 4, 20, 100, 1)))
        while not objects(memory, "nursery"):
            memory = stepped(memory)[0]
        self.assertEqual([read_register(memory, name) for name in ("great", "small")], [1, 0])
        nursery, first = read_register(memory, "nursery"), read_register(memory, "first")
        self.assertTrue(objects(memory, "nursery"))
        self.assertRaises(NotThere, moved, memory, nursery)
        both = begun_small(memory)
        self.assertEqual(moved(both, nursery)[1], read_register(both, "old"))
        self.assertEqual(read_register(moved(both, nursery)[0], "left"), read_register(both, "left"))
        self.assertLessEqual(moved(both, first)[0][15], both[15])

    def test_wrong_places(self):
        memory = begun_small(begin(PAIRS, ROOMY))
        for value in odd_values() + [-1, 1000000000, True, "0"]:
            if value == 0 and not isinstance(value, bool):
                continue
            with self.assertRaises(InvalidNumber) as caught:
                moved(memory, value)
            self.assertIs(caught.exception.given, value)

    def test_keeps_the_rest(self):
        for seed in range(60):
            row = rng(seed)
            _, memory = random_machine(row)
            if memory is None:
                continue
            memory = run(memory, row.randrange(150))[0]
            rest, many = plain_rest(memory), len(reached(memory))
            for name, goes_on in (("nursery", "small"), ("other", "great")):
                for place, kind, copy in objects(memory, name):
                    if not read_register(memory, goes_on):
                        self.assertRaises(NotThere, moved, memory, place)
                        continue
                    behind, found = moved(memory, place)
                    self.assertEqual(behind, tuple(Machine(memory).m) if copy is not None else
                                     after(memory, "move", a(place)))
                    self.assertEqual(found, led_to(behind, a(place)))
                    self.assertEqual(object_at(behind, found), object_at(memory, place))
                    self.assertEqual(object_at(behind, found)[0], kind)
                    self.assertEqual((plain_rest(behind), len(reached(behind))), (rest, many))
                    assert_sound(behind)


class Fetching(unittest.TestCase):
    def test_without_a_great_collection(self):
        memory = run(begin("(boxes a 1 (pair (pair 1 2) a))", (20, 1, 12, 40, 1)), 4)[0]
        stack, half, nursery = [read_register(memory, name) for name in ("stack", "half", "nursery")]
        self.assertEqual(memory[stack + 4:stack + 6], (a(nursery), a(half)))
        for word in (n(0), n(-5), a(half), a(nursery), a(half + 2)):
            self.assertEqual(fetched(memory, word), (memory, word))
            small = begun_small(memory)
            self.assertEqual(fetched(small, word), (small, word))

    def test_in_a_great_collection(self):
        great = begun_great(begin("(boxes a 1 b 2 (pair a b))", (20, 1, 12, 40, 1)))
        half, other = read_register(great, "first"), read_register(great, "half")
        self.assertEqual(fetched(great, n(7)), (great, n(7)))
        behind, word = fetched(great, a(half + 2))
        self.assertEqual(word, a(other))
        self.assertEqual(behind, moved(great, half + 2)[0])
        self.assertEqual(fetched(behind, a(half + 2)), (behind, a(other)))
        self.assertEqual(fetched(behind, a(other)), (behind, a(other)))
        self.assertEqual(fetched(word=a(half), memory=great), fetched(great, a(half)))

    def test_of_the_nursery_in_a_great_collection(self):
        memory = run(begun_great(begin("(boxes a 1 (pair (pair 1 2) a))", (20, 1, 12, 60, 1))), 7)[0]
        nursery = read_register(memory, "nursery")
        self.assertEqual([read_register(memory, "great"), len(objects(memory, "nursery"))], [1, 1])
        self.assertEqual(fetched(memory, a(nursery)), (memory, a(nursery)))


class Reached(unittest.TestCase):
    def test_from_the_stack_alone(self):
        memory = begin("(boxes a (pair 1 b) b 2 c 3 (pair 1 a))", (20, 1, 12, 40, 1))
        half = read_register(memory, "half")
        # Body 0 captures all boxes; the closure stands behind them, then the pair.
        self.assertEqual(reached(memory), (half, half + 2, half + 4, half + 6, half + 11))
        ended = run(memory, 9)[0]
        nursery = read_register(ended, "nursery")
        self.assertEqual(reached(ended), (nursery, half, half + 2, half + 11))
        self.assertEqual(reached(memory=run(begin("5"), 2)[0]), ())

    def test_numbers_and_marks_reach_nothing(self):
        memory = begin("(plus 70 70)", (20, 1, 12, 40, 1))
        half = read_register(memory, "half")
        self.assertEqual(reached(run(memory, 2)[0]), (half,))

    def test_copies_are_told(self):
        great = begun_great(begin("(boxes a 1 b 2 (pair a b))", (20, 1, 12, 40, 1)))
        half = read_register(great, "first")
        self.assertEqual(reached(great), (half, half + 2, half + 4))
        behind = moved(great, half)[0]
        self.assertEqual(reached(behind), (half + 2, half + 4, half + 40))

    def test_rings(self):
        memory = run(begin("(boxes a b b a (put a (pair a b)))", ROOMY), 9)[0]
        self.assertEqual(len(reached(memory)), 3)


class WholeCollections(unittest.TestCase):
    def test_by_the_second_collector(self):
        found = {True: 0, False: 0}
        for seed in range(150):
            row = rng(seed)
            _, memory = random_machine(row)
            if memory is None:
                continue
            for _ in range(4):
                memory = run(memory, row.randrange(120))[0]
                if outcome(memory) == "room":
                    self.assertRaises(NotNow, collected, memory)
                    break
                second = Machine(memory)
                done = second.collect()
                found[done] += 1
                whole = collected(memory)
                self.assertEqual(whole, tuple(second.m) if done else None)
                if whole is not None:
                    self.whole(memory, whole)
        self.assertGreater(found[True], 100)

    def whole(self, memory, whole):
        """What point 40 tells of a memory and of what comes of a whole collection."""
        told = registers(whole)
        self.assertEqual([told[name] for name in ("great", "small", "many", "left", "edge")], [0] * 5)
        self.assertEqual(told["young"], told["nursery"])
        self.assertEqual(reached(whole), tuple([place for place, _, _ in objects(whole, "half")]))
        self.assertEqual(len(reached(whole)), len(reached(memory)))
        self.assertEqual(plain_rest(whole), plain_rest(memory))
        assert_sound(whole)
        again = collected(whole)
        other = 2 * told["first"] + told["size"] - told["half"]
        self.assertEqual(read_register(again, "half"), other)
        self.assertEqual(reached(again), tuple([place + other - told["half"] for place in reached(whole)]))
        kinds = [[kind for _, kind, _ in objects(one, "half")] for one in (whole, again)]
        self.assertEqual(kinds[0], kinds[1])

    def test_amid_a_small_and_amid_a_great_one(self):
        memory = run(begin(PAIRS, (20, 4, 20, 100, 1)), 8)[0]
        small = run(begun_small(memory), 3)[0]
        self.whole(small, collected(small))
        great = run(begun_great(begin(PAIRS, (20, 4, 20, 100, 1))), 9)[0]
        self.whole(great, collected(great))
        both = run(begun_small(great), 2)[0]
        self.assertEqual([read_register(both, name) for name in ("great", "small")], [1, 1])
        self.whole(both, collected(both))
        self.assertEqual(collected(memory=both), collected(both))

    def test_in_each_status_but_room(self):
        for text, status in (("(pair 1 2)", "ended"), ("(first (box 1))", "kind"), ("(plus 999999999 1)", "great")):
            memory = run(begin(text, (20, 1, 12, 40, 1)), 9)[0]
            self.assertEqual(outcome(memory), status)
            self.whole(memory, collected(memory))
            self.assertEqual(outcome(collected(memory)), status)
        memory = with_words(begin("(pair 1 2)"), {0: m(4)})
        self.assertRaises(NotNow, collected, memory)

    def test_none_without_room(self):
        memory = run(begin("(pair (pair (pair 1 2) 3) (say 4))", (20, 1, 12, 21, 1)), 5)[0]
        self.assertIsNotNone(collected(filled(memory, 7)))
        self.assertIsNone(collected(filled(memory, 6)))

    def test_a_small_one_at_whose_end_a_great_one_begins(self):
        memory = run(begin("(pair (pair 1 2) 3)", (20, 1, 12, 20, 1)), 3)[0]
        whole = collected(memory)
        self.whole(memory, whole)
        self.assertEqual(read_register(whole, "half"), read_register(memory, "first") + 20)
        # With more room none begins by itself, but one does in the whole collection.
        memory = run(begin("(pair (pair 1 2) 3)", (20, 1, 12, 100, 1)), 3)[0]
        self.assertEqual(read_register(collected(memory), "half"), read_register(memory, "first") + 100)


class KeepingTheRest(unittest.TestCase):
    def test_each_step_by_the_second_collector(self):
        steps = {"small": 0, "great": 0}
        for seed in range(120):
            row = rng(seed)
            _, memory = random_machine(row)
            if memory is None:
                continue
            memory = run(memory, row.randrange(100))[0]
            if outcome(memory) != "runs":
                continue
            if not read_register(memory, "small") and row.randrange(2):
                try:
                    memory, before = begun_small(memory), memory
                    self.assertEqual(memory, after(before, "begin_small"))
                except NoRoom:
                    self.assertLess(room(memory), read_register(memory, "young") - read_register(memory, "nursery"))
            elif not any([read_register(memory, name) for name in ("small", "great", "many")]):
                if read_register(memory, "young") == read_register(memory, "nursery"):
                    memory, before = begun_great(memory), memory
                    self.assertEqual(memory, after(before, "begin_great"))
            rest, many = plain_rest(memory), len(reached(memory))
            for _ in range(200):
                if read_register(memory, "small"):
                    name, behind = "small", small_step(memory)
                elif read_register(memory, "great"):
                    name, behind = "great", great_step(memory)
                else:
                    break
                steps[name] += 1
                self.assertEqual(behind, after(memory, name + "_step"))
                self.assertEqual((plain_rest(behind), len(reached(behind))), (rest, many))
                self.assertGreaterEqual(room(behind), 0)
                assert_sound(behind)
                memory = behind
        self.assertGreater(min(steps.values()), 150, steps)

    def test_free_words_are_not_read(self):
        for seed in range(60):
            row = rng(seed)
            _, memory = random_machine(row)
            if memory is None:
                continue
            memory = run(memory, row.randrange(100))[0]
            if outcome(memory) != "room":
                self.assertTrue(free_words_are_not_read(row, memory, collected))
            changed = with_free_words_changed(row, memory)
            self.assertEqual((reached(changed), room(changed)), (reached(memory), room(memory)))
            for name, step in (("small", small_step), ("great", great_step)):
                while read_register(memory, name) and not (name == "great" and read_register(memory, "small")):
                    self.assertTrue(free_words_are_not_read(row, memory, step))
                    memory = step(memory)

    def test_behind_the_ends(self):
        for text in BUSY[:3]:
            memory = begin(text, (60, 2, 12, 80, 2))
            ends = {"small": 0, "great": 0}
            for _ in range(3000):
                behind = stepped(memory)[0]
                if behind == memory:
                    break
                for name in ("small", "great"):
                    if read_register(memory, name) and not read_register(behind, name):
                        ends[name] += 1
                        self.leads_nowhere(behind, name)
                memory = behind
            self.assertGreater(ends["small"], 0, text)

    def leads_nowhere(self, memory, name):
        """No word in use leads to the area that was emptied."""
        told = registers(memory)
        other = 2 * told["first"] + told["size"] - told["half"]
        if name == "small":
            begin_place, end = told["nursery"], told["first"]
        else:
            begin_place, end = other, other + told["size"]
        words = list(memory[told["stack"]:told["top"]]) + list(memory[told["half"]:told["old"]])
        words += list(memory[told["nursery"]:told["young"]])
        self.assertEqual([word for word in words if word % 4 == 1 and begin_place <= word // 4 < end], [])


if __name__ == "__main__":
    unittest.main()
