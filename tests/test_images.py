"""Points 50 to 53: devices, what slots hold, mending, saving, cuts, one rotten cell."""

import unittest

from formstead.errors import InvalidDevice, InvalidMemory, InvalidNumber, InvalidWrites, NoRoom, NotMended
from formstead.images import (
    blank, current, held, is_mended, mended, mending, saved, saving, taken_up, written,
)
from formstead.runs import run
from tests.helpers import odd_values, rng
from tests.machines import SMALL_SIZES, begin, m, with_words

FIRST = begin("(pair 1 2)", SMALL_SIZES)
PAIR = run(FIRST, 3)[0]
ENDED = run(FIRST, 9)[0]
OTHER = begin("(plus (say 1) 3)", SMALL_SIZES)
WIDTH = 130
GREAT = 10 ** 30


def slot_of(turn, words, width=WIDTH):
    """The cells of a slot that holds these words."""
    return (turn, len(words), turn + len(words) + sum(words)) + words + (0,) * (width - len(words)) + (turn,)


def device_of(one, other):
    return slot_of(*one) + slot_of(*other)


EMPTY = (0,) * (WIDTH + 4)
ODD = [value for value in odd_values() if not isinstance(value, tuple)]


class Devices(unittest.TestCase):
    def wrong(self, device, index):
        for call in (current, is_mended, mending, mended, taken_up, lambda told: held(told, None),
                     lambda told: saving(told, None), lambda told: saved(told, None),
                     lambda told: written(told, None, None, True)):
            with self.assertRaises(InvalidDevice) as caught:
                call(device)
            self.assertEqual(caught.exception.index, index)

    def test_blank(self):
        for width in (26, 27, 120, 9000):
            self.assertEqual(blank(width), (0,) * (2 * width + 8))
            self.assertIsNone(current(blank(width)))
            self.assertTrue(is_mended(blank(width)))
        for width in ODD + [25, 9001, 0, -1, True, 10 ** 300, (26,)]:
            with self.assertRaises(InvalidNumber) as caught:
                blank(width)
            self.assertIs(caught.exception.given, width)
        self.assertEqual(blank(width=26), blank(26))

    def test_lengths(self):
        for device in ODD + [(), (0,) * 58, (0,) * 59, (0,) * 61, (0,) * 267, list(blank(26)), [0] * 60, None]:
            self.wrong(device, None)
        for length in (60, 62, 268):
            self.assertIsNone(current((0,) * length))

    def test_elements(self):
        for word in (True, False, None, "0", (0,), [0], b"0"):
            for at in (0, 1, 30, 59):
                cells = list(blank(26))
                cells[at] = word
                self.wrong(tuple(cells), at)
        cells = list(blank(26))
        cells[40] = cells[17] = True
        self.wrong(tuple(cells), 17)
        cells[17] = -GREAT
        self.wrong(tuple(cells), 40)

    def test_slots(self):
        for slot in ODD + [2, -1, True, False, 10 ** 300, (0,), "0"]:
            with self.assertRaises(InvalidNumber) as caught:
                held(blank(26), slot)
            self.assertIs(caught.exception.given, slot)
        self.assertIsNone(held(slot=1, device=blank(26)))


class Holding(unittest.TestCase):
    def holds(self, cells, wanted):
        """What the cells hold as either slot, the other one being empty."""
        for slot in (0, 1):
            device = cells + EMPTY if slot == 0 else EMPTY + cells
            self.assertEqual(held(device, slot), wanted)
            self.assertIsNone(held(device, 1 - slot))
            self.assertEqual(current(device), None if wanted is None else slot)
            self.assertEqual(is_mended(device), wanted is not None or cells[0] == 0)
            wrong = wanted is None and cells[0] != 0
            self.assertEqual(mending(device), ((slot * (WIDTH + 4), 0),) if wrong else ())

    def test_whole(self):
        for turn in (1, 2, 999, GREAT):
            for words in ((), (0,), (5, -6, GREAT), (0, 0, 1), FIRST, (7,) * WIDTH, (0,) * WIDTH):
                self.holds(slot_of(turn, words), (turn, words))

    def test_each_condition_broken_alone(self):
        words = (5, 6, 7)
        good = list(slot_of(3, words))
        total = good[2]
        for cells in (
                {0: 0, WIDTH + 3: 0, 2: total - 3}, {0: -3, WIDTH + 3: -3, 2: total - 6}, {WIDTH + 3: 4},
                {0: 4, 2: total + 1}, {1: -1, 2: total - 4}, {1: WIDTH + 1, 2: total + WIDTH - 2},
                {1: 2, 2: total - 1}, {3 + 3: 1, 2: total + 1}, {WIDTH + 2: -9, 2: total - 9}, {2: total + 1},
                {2: total - 1}, {2: 0}, {3: 4}, {5: 8}, {0: 4}, {1: 4}, {1: GREAT}, {WIDTH + 3: 0}, {0: 0},
        ):
            told = list(good)
            for cell, number in cells.items():
                told[cell] = number
            self.holds(tuple(told), None)

    def test_words_that_are_0_may_be_counted_or_not(self):
        for count, held_words in ((2, (5, 6)), (3, (5, 6, 0)), (WIDTH, (5, 6) + (0,) * (WIDTH - 2))):
            cells = list(slot_of(3, (5, 6)))
            cells[1], cells[2] = count, 3 + count + 11
            self.holds(tuple(cells), (3, held_words))

    def test_current(self):
        for one, other, wanted in ((1, 2, 1), (2, 1, 0), (3, 3, 0), (GREAT, GREAT + 1, 1), (GREAT, 1, 0)):
            device = device_of((one, FIRST), (other, PAIR))
            self.assertEqual(current(device), wanted)
            self.assertEqual(taken_up(device), PAIR if wanted else FIRST)
        # A slot that holds nothing is not current, however great its turn is.
        rotten = with_words(device_of((9, FIRST), (2, PAIR)), {5: 1})
        self.assertEqual(current(rotten), 1)
        self.assertEqual(mending(rotten), ((0, 0),))


class Mending(unittest.TestCase):
    def test_none_one_and_two_slots(self):
        good = device_of((1, FIRST), (2, PAIR))
        head = WIDTH + 4
        for changed, wanted in (
                ({}, ()), ({5: 1}, ((0, 0),)), ({head + 5: 1}, ((head, 0),)),
                ({head + 5: 1, 5: 1}, ((0, 0), (head, 0))), ({0: 0}, ()), ({0: 0, head: 0}, ()),
                ({0: -1, head: 0}, ((0, 0),)), ({0: 0, head: GREAT}, ((head, 0),)),
        ):
            device = with_words(good, changed)
            self.assertEqual(mending(device), wanted)
            self.assertIs(is_mended(device), wanted == ())
            behind = mended(device)
            self.assertEqual(behind, with_words(device, dict(wanted)))
            self.assertTrue(is_mended(behind))
            self.assertEqual(mended(behind), behind)
            self.assertEqual(mended(device=device), mended(device))


class Saving(unittest.TestCase):
    def all_writes(self, device, memory, slot, turn):
        """The writes as point 51 tells them, without those of what the cell has already."""
        head = slot * (len(device) // 2)
        width = len(device) // 2 - 4
        words = memory + (0,) * (width - len(memory))
        found = [(head, 0)] + [(head + 3 + at, word) for at, word in enumerate(words)]
        found += [(head + 1, len(memory)), (head + 2, turn + len(memory) + sum(memory)), (head + 3 + width, turn)]
        return tuple([(cell, number) for cell, number in found if device[cell] != number] + [(head, turn)])

    def check(self, device, memory, slot, turn):
        writes = saving(device, memory)
        self.assertEqual(writes, self.all_writes(device, memory, slot, turn))
        behind = saved(device, memory)
        self.assertEqual(behind, written(device, writes, len(writes)))
        self.assertEqual(held(behind, slot), (turn, memory))
        self.assertEqual(held(behind, 1 - slot), held(device, 1 - slot))
        self.assertEqual(current(behind), slot)
        self.assertEqual(taken_up(behind), memory)
        self.assertTrue(is_mended(behind))
        return behind

    def test_on_each_slot(self):
        device = blank(WIDTH)
        for turn, memory in enumerate((FIRST, PAIR, OTHER, ENDED, ENDED, FIRST), 1):
            device = self.check(device, memory, (turn - 1) % 2, turn)

    def test_on_the_slot_that_is_not_current(self):
        self.check(device_of((5, FIRST), (4, PAIR)), OTHER, 1, 6)
        self.check(device_of((4, FIRST), (4, PAIR)), OTHER, 1, 5)
        self.check(device_of((4, FIRST), (GREAT, PAIR)), OTHER, 0, GREAT + 1)
        self.check(EMPTY + slot_of(7, PAIR), OTHER, 0, 8)
        self.check(slot_of(7, PAIR) + EMPTY, OTHER, 1, 8)
        # A slot that holds nothing is written over, whatever stands in it.
        waste = (0,) + tuple(range(5, WIDTH + 8))
        self.check(waste + slot_of(7, PAIR), OTHER, 0, 8)
        self.check(waste + EMPTY, OTHER, 0, 1)
        self.check(EMPTY + waste, OTHER, 0, 1)

    def test_writes_that_are_left_out(self):
        device = saved(saved(blank(WIDTH), FIRST), FIRST)
        # Only HEAD, SUM and TAIL differ from what was saved two turns ago.
        self.assertEqual([cell for cell, _ in saving(device, FIRST)], [0, 2, WIDTH + 3, 0])
        self.assertEqual(saving(device, FIRST)[-1], (0, 3))
        # With a TAIL that is right already, as it may be behind a cut; HEAD is written all the same.
        device = with_words(EMPTY + slot_of(2, PAIR), {WIDTH + 3: 3})
        self.assertEqual([cell for cell, _ in saving(device, PAIR)][-2:], [2, 0])
        self.check(device, PAIR, 0, 3)
        blank_writes = saving(blank(WIDTH), FIRST)
        self.assertTrue(all(number != 0 for _, number in blank_writes))
        self.assertEqual(len(blank_writes), len([word for word in FIRST if word]) + 4)

    def test_just_as_wide(self):
        device = blank(len(FIRST))
        self.assertEqual(taken_up(saved(device, FIRST)), FIRST)
        narrow = blank(len(FIRST) - 1)
        for call in (saving, saved):
            self.assertRaises(NoRoom, call, narrow, FIRST)

    def test_errors_in_their_order(self):
        broken = with_words(device_of((1, FIRST), (2, PAIR)), {5: 1})
        narrow = with_words(blank(26), {0: 1})
        for call in (saving, saved):
            self.assertRaises(NotMended, call, broken, FIRST)
            self.assertRaises(NotMended, call, narrow, FIRST)
            self.assertRaises(NoRoom, call, blank(26), FIRST)
            for value, index in [(value, None) for value in ODD] + [(FIRST[:-1], 23), (with_words(FIRST, {0: 0}), 0)]:
                for device in (broken, narrow, blank(WIDTH)):
                    with self.assertRaises(InvalidMemory) as caught:
                        call(device, value)
                    self.assertEqual(caught.exception.index, index)
            self.assertEqual(call(memory=FIRST, device=blank(WIDTH)), call(blank(WIDTH), FIRST))


class Written(unittest.TestCase):
    def test_in_part(self):
        device, writes = blank(26), ((3, 7), (5, -8), (3, GREAT))
        for many, torn, wanted in (
                (0, None, {}), (1, None, {3: 7}), (2, None, {3: 7, 5: -8}), (3, None, {3: GREAT, 5: -8}),
                (0, 1, {3: 1}), (1, 0, {3: 7}), (1, -GREAT, {3: 7, 5: -GREAT}), (2, 9, {3: 9, 5: -8}),
        ):
            self.assertEqual(written(device, writes, many, torn), with_words(device, wanted))
        self.assertEqual(written(device, (), 0), device)
        self.assertEqual(written(torn=4, many=0, writes=writes, device=device), with_words(device, {3: 4}))
        self.assertEqual(written(device, writes, 2), written(device, writes, 2, None))

    def test_wrong_writes(self):
        device = blank(26)
        for writes in ODD + [[(1, 2)], None]:
            self.wrong_writes(device, writes, None)
        for write in ODD + [(), (1,), (1, 2, 3), [1, 2], (-1, 0), (60, 0), (True, 0), (1, True), (1, None), (None, 1),
                            ("1", 1), (10 ** 300, 1)]:
            for ahead in ((), ((0, 1),), ((59, -1), (0, GREAT))):
                self.wrong_writes(device, ahead + (write,), len(ahead))
                self.wrong_writes(device, ahead + (write, None), len(ahead))

    def wrong_writes(self, device, writes, index):
        with self.assertRaises(InvalidWrites) as caught:
            written(device, writes, None, True)
        self.assertEqual(caught.exception.index, index)

    def test_wrong_many(self):
        writes = ((3, 7), (5, -8))
        for many in ODD + [-1, 3, True, False, (0,), "1", 10 ** 300]:
            with self.assertRaises(InvalidNumber) as caught:
                written(blank(26), writes, many, True)
            self.assertIs(caught.exception.given, many)

    def test_wrong_torn(self):
        writes = ((3, 7), (5, -8))
        for torn in ODD + [True, False, (0,), "1"]:
            if torn is None or isinstance(torn, int) and not isinstance(torn, bool):
                continue
            for many in (0, 1, 2):
                with self.assertRaises(InvalidNumber) as caught:
                    written(blank(26), writes, many, torn)
                self.assertIs(caught.exception.given, torn)
        for torn in (0, 1, -1, 7, GREAT):
            with self.assertRaises(InvalidNumber) as caught:
                written(blank(26), writes, 2, torn)
            self.assertEqual(caught.exception.given, torn)
            self.assertRaises(InvalidNumber, written, blank(26), (), 0, torn)


class Cuts(unittest.TestCase):
    def torn_numbers(self, device, writes, many):
        """What may stand in the cell that was written last: what it had, what it was to have, turns, anything."""
        cell, number = writes[many]
        return {None, 0, 1, 2, 3, 4, -1, GREAT, number, device[cell], number + 1}

    def check(self, device, memory, before):
        """Whatever is cut, the device holds what was saved last, or what was being saved."""
        writes = saving(device, memory)
        for many in range(len(writes) + 1):
            for torn in self.torn_numbers(device, writes, many) if many < len(writes) else {None}:
                cut = written(device, writes, many, torn)
                behind = mended(cut)
                self.assertIn(taken_up(behind), (before, memory))
                done = mending(cut)
                if done:
                    self.assertRaises(NotMended, taken_up, cut)
                # Mending may be cut, too.
                for more in range(len(done) + 1):
                    for again in (None, 0, 5, GREAT, -3, 1, 2, 3) if more < len(done) else (None,):
                        twice = written(cut, done, more, again)
                        self.assertIn(taken_up(mended(twice)), (before, memory))
                if many == len(writes):
                    self.assertEqual(taken_up(behind), memory)
                if many == 0 and torn is None:
                    self.assertEqual(taken_up(behind), before)

    def test_behind_each_write(self):
        device = blank(WIDTH)
        self.check(device, FIRST, None)
        device = saved(device, FIRST)
        self.check(device, PAIR, FIRST)
        device = saved(device, PAIR)
        self.check(device, OTHER, PAIR)
        self.check(device, PAIR, PAIR)
        self.check(saved(device, OTHER), FIRST, OTHER)

    def test_many_cuts_one_behind_the_other(self):
        for seed in range(150):
            row = rng(seed)
            device, last = blank(WIDTH), None
            for _ in range(12):
                memory = row.choice([FIRST, PAIR, OTHER, ENDED])
                writes = saving(device, memory)
                many = row.choice([row.randrange(len(writes) + 1), len(writes), len(writes) - 1, 0])
                torn = None
                if many < len(writes) and row.randrange(3):
                    torn = row.choice([0, 1, 2, 3, writes[many][1], writes[-1][1], device[writes[many][0]], GREAT])
                device = written(device, writes, many, torn)
                while row.randrange(3) == 0:
                    done = mending(device)
                    if done:
                        device = written(device, done, row.randrange(len(done) + 1))
                    if done and row.randrange(2) and mending(device):
                        device = written(device, mending(device), 0, row.choice([0, 1, -5, GREAT]))
                device = mended(device)
                self.assertIn(taken_up(device), (last, memory))
                last = taken_up(device)


class RottenCells(unittest.TestCase):
    def test_each_single_cell(self):
        for one, two in ((FIRST, PAIR), (PAIR, OTHER), (FIRST, FIRST)):
            device = saved(saved(blank(WIDTH), one), two)
            for cell in range(len(device)):
                for number in {0, 1, 2, 3, -1, GREAT, device[cell] + 1, device[cell] - 1, -device[cell]}:
                    if number != device[cell]:
                        behind = mended(with_words(device, {cell: number}))
                        self.assertIn(taken_up(behind), (two,) if cell < WIDTH + 4 else (one, two))
        device = saved(saved(saved(blank(WIDTH), OTHER), FIRST), PAIR)
        for cell in range(len(device)):
            for number in (0, device[cell] + 1, GREAT):
                if number != device[cell]:
                    behind = mended(with_words(device, {cell: number}))
                    self.assertIn(taken_up(behind), (PAIR,) if cell >= WIDTH + 4 else (FIRST, PAIR))


class TakenUp(unittest.TestCase):
    def test_none(self):
        self.assertIsNone(taken_up(blank(26)))
        self.assertIsNone(taken_up(device=(0,) + tuple(range(1, 60))[:29] + (0,) * 30))

    def test_not_mended_ahead_of_no_sound_memory(self):
        for words, index in (((), None), ((1, 2, 3), None), (FIRST[:-1], 23), (with_words(FIRST, {2: 2}), 2),
                             (with_words(FIRST, {0: m(2)}), 0), (with_words(FIRST, {50: -1}), 50)):
            device = slot_of(2, words) + EMPTY
            with self.assertRaises(InvalidMemory) as caught:
                taken_up(device)
            self.assertEqual(caught.exception.index, index)
            # Of two slots the current one is asked.
            with self.assertRaises(InvalidMemory):
                taken_up(device_of((2, words), (1, FIRST)))
            self.assertEqual(taken_up(device_of((2, words), (3, FIRST))), FIRST)
            broken = slot_of(2, words) + with_words(EMPTY, {0: 1})
            self.assertRaises(NotMended, taken_up, broken)
        self.assertRaises(NotMended, taken_up, slot_of(2, FIRST) + with_words(EMPTY, {0: -1}))


if __name__ == "__main__":
    unittest.main()
