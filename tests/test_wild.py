"""Points 29 to 41 for every sound memory, also those that no machine made: each step against the second machine."""

import unittest

from formstead.book import opened_source
from formstead.collector import (
    begun_great, begun_small, collected, fetched, great_step, moved, reached, room, small_step,
)
from formstead.errors import NoRoom, NotNow, NotThere, TooGreat
from formstead.machine import makes_step, outcome, stepped
from formstead.memory import (
    area, code_at, frames, in_use, laid_out, led_to, object_at, objects, read_register, read_word, sizes_of,
)
from formstead.rest import rest, rest_text
from formstead.runs import run
from formstead.texts import read_source
from tests.helpers import BOOK, rng
from tests.machines import a
from tests.plain_machine import OPS, Machine, after
from tests.plain_rest import NAMES, code_in, registers
from tests.random_books import random_book
from tests.wild import wild_memory

MAKING = ("call", "tail", "first", "second", "test", "plus", "minus", "times", "box", "look", "put", "say")


def memories(seeds):
    for seed in range(seeds):
        memory = wild_memory(rng(seed))
        if memory is not None:
            yield rng(seed), memory


class Looking(unittest.TestCase):
    def test_registers_areas_and_words(self):
        for row, memory in memories(150):
            told = registers(memory)
            self.assertEqual([read_register(memory, name) for name in NAMES], [told[name] for name in NAMES])
            self.assertEqual(code_at(memory), code_in(memory))
            empty = laid_out(sizes_of(memory), code_at(memory))
            self.assertEqual(len(empty), len(memory))
            self.assertEqual(empty[17:told["stack"]][:8], memory[17:25])
            other = 2 * told["first"] + told["size"] - told["half"]
            ends = {"registers": 26, "bodies": 26 + 3 * told["bodies"], "rows": told["stack"], "stack": told["top"],
                    "remembered": told["remembered"] + told["many"], "nursery": told["young"], "half": told["old"],
                    "other": told["edge"] if told["great"] else other}
            begins = sorted([(0, "registers"), (26, "bodies"), (26 + 3 * told["bodies"], "rows"),
                             (told["stack"], "stack"), (told["remembered"], "remembered"),
                             (told["nursery"], "nursery"), (told["half"], "half"), (other, "other")])
            for place in range(len(memory)):
                name = [name for begin, name in begins if begin <= place][-1]
                self.assertEqual(area(memory, place), name)
                self.assertIs(in_use(memory, place), place < ends[name])
            self.assertIsNone(area(memory, len(memory)))

    def test_objects_signposts_and_frames(self):
        met = set()
        for _, memory in memories(300):
            told = registers(memory)
            for name, begin, end in (("nursery", told["nursery"], told["young"]), ("half", told["half"], told["old"]),
                                     ("other", 2 * told["first"] + told["size"] - told["half"], told["edge"])):
                place = begin
                for found, kind, copy in objects(memory, name):
                    self.assertEqual(found, place)
                    header = memory[place] if copy is None else memory[copy]
                    self.assertEqual(read_word(header)[:2], ("header", kind))
                    self.assertEqual(copy is None, memory[place] % 4 == 3)
                    fields = header // 32
                    begin_of = place if copy is None else copy
                    self.assertEqual(object_at(memory, place), (kind, memory[begin_of + 1:begin_of + 1 + fields]))
                    self.assertEqual(led_to(memory, a(place)), begin_of)
                    place += 1 + fields
                    met.add((name, kind, copy is None))
                self.assertEqual(place, max(begin, end) if name != "other" or told["great"] else begin)
            rows = frames(memory)
            self.assertEqual(rows[0][:2], (told["base"], told["row"]))
            self.assertEqual(rows[-1][0], told["stack"] + 2)
            end = told["top"]
            for base, _, operands in rows:
                self.assertEqual(operands, memory[base + 2:end])
                end = base - 2
        self.assertGreater(len(met), 12)


class Steps(unittest.TestCase):
    def test_small_steps_and_what_they_make(self):
        made, statuses = 0, set()
        for _, memory in memories(600):
            for _ in range(40):
                machine = Machine(memory)
                said = machine.small_machine_step()
                behind = (tuple(machine.m), said)
                self.assertEqual(stepped(memory), behind)
                makes = makes_step(memory)
                op = OPS[memory[26 + 3 * (read_register(memory, "bodies") + read_register(memory, "row"))] // 4]
                if makes:
                    self.assertIn(op, MAKING)
                    self.assertEqual(outcome(memory), "runs")
                    made += 1
                if said:
                    self.assertEqual((makes, op), (True, "say"))
                if behind[0] == memory:
                    break
                memory = behind[0]
            statuses.add(outcome(memory))
        self.assertGreater(made, 50)
        self.assertGreater(len(statuses), 2)

    def test_many_steps(self):
        for row, memory in memories(200):
            here, told = memory, ()
            steps = row.randrange(50)
            for _ in range(steps):
                here, said = stepped(here)
                told += said
            self.assertEqual(run(memory, steps), (here, told))
            self.assertEqual(run(here, 7)[0], run(memory, steps + 7)[0])


class Collections(unittest.TestCase):
    def test_each_step(self):
        for _, memory in memories(400):
            self.assertEqual(room(memory), Machine(memory).room())
            for begin, begin_plain, step, step_plain, name in (
                    (begun_small, "begin_small", small_step, "small_step", "small"),
                    (begun_great, "begin_great", great_step, "great_step", "great")):
                try:
                    here = begin(memory)
                    self.assertEqual(here, after(memory, begin_plain))
                except NotNow:
                    here = memory
                except NoRoom:
                    self.assertLess(room(memory), read_register(memory, "young") - read_register(memory, "nursery"))
                    continue
                reaching = len(reached(here))
                while read_register(here, name) and not (name == "great" and read_register(here, "small")):
                    behind = step(here)
                    self.assertEqual(behind, after(here, step_plain))
                    self.assertEqual(len(reached(behind)), reaching)
                    here = behind

    def test_whole_ones(self):
        for _, memory in memories(400):
            machine = Machine(memory)
            wanted = tuple(machine.m) if machine.collect() else None
            self.assertEqual(collected(memory), wanted)
            if wanted is not None:
                self.assertEqual([place for place, _, _ in objects(wanted, "half")], list(reached(wanted)))
                self.assertEqual(len(reached(wanted)), len(reached(memory)))
                self.assertEqual(objects(wanted, "nursery") + objects(wanted, "other"), ())

    def test_moving_and_fetching(self):
        moves = 0
        for _, memory in memories(400):
            told = registers(memory)
            for name in ("nursery", "half", "other"):
                for place, _, _ in objects(memory, name):
                    if name == "half" or name == "nursery" and not told["small"]:
                        self.assertRaises(NotThere, moved, memory, place)
                        continue
                    machine = Machine(memory)
                    copy = machine.move(a(place)) // 4
                    self.assertEqual(moved(memory, place), (tuple(machine.m), copy))
                    moves += 1
            for _, _, operands in frames(memory):
                for word in operands:
                    machine = Machine(memory)
                    found = machine.fetch(word)
                    self.assertEqual(fetched(memory, word), (tuple(machine.m), found))
        self.assertGreater(moves, 300)


class Texts(unittest.TestCase):
    def test_the_text_of_the_rest_is_read_as_the_rest(self):
        for row, memory in memories(300):
            memory = run(memory, row.randrange(9))[0]
            try:
                wanted = rest(memory)
            except TooGreat:
                continue
            for book in ((), BOOK, random_book(row)):
                self.assertEqual(opened_source(book, read_source(book, rest_text(book, memory))), wanted)


if __name__ == "__main__":
    unittest.main()
