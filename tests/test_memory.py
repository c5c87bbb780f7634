"""Points 28 to 32: words, registers, areas, objects, signposts and frames."""

import unittest

from formstead.collector import begun_great, begun_small, great_step
from formstead.errors import InvalidName, InvalidNumber, InvalidSizes
from formstead.machine import stepped
from formstead.memory import (
    address_word, area, code_at, frames, header_word, in_use, laid_out, led_to, mark_word, number_word, object_at,
    objects, read_register, read_word, sizes_of,
)
from formstead.rows import code_of
from formstead.runs import run
from tests.helpers import odd_values, rng
from tests.machines import BUSY, SMALL_SIZES, begin, random_machine, random_sizes, source
from tests.plain_rest import NAMES, registers

SIZES = (20, 1, 12, 20, 1)


class Words(unittest.TestCase):
    def test_numbers(self):
        for n in (0, 1, -1, 999999999, -999999999):
            self.assertEqual(read_word(4 * n), ("number", n))
            self.assertEqual(number_word(n), 4 * n)
        for n in (1000000000, -1000000000, 10 ** 300):
            self.assertIsNone(read_word(4 * n))
            self.assertRaises(InvalidNumber, number_word, n)

    def test_addresses_and_marks(self):
        for sort, more, make in (("address", 1, address_word), ("mark", 2, mark_word)):
            for n in (0, 1, 999999999):
                self.assertEqual(read_word(4 * n + more), (sort, n))
                self.assertEqual(make(n), 4 * n + more)
            for n in (-1, -2, 1000000000, 10 ** 300):
                self.assertIsNone(read_word(4 * n + more))
                with self.assertRaises(InvalidNumber) as caught:
                    make(n)
                self.assertEqual(caught.exception.given, n)

    def test_headers(self):
        for kind, c, wanted in (("closure", 0, (1, 2, 999999999)), ("pair", 1, (2,)), ("box", 2, (1,))):
            for fields in (0, 1, 2, 3, 999999998, 999999999, 1000000000, -1, 10 ** 300):
                word = 4 * (8 * fields + c) + 3
                if fields in wanted or c == 0 and 1 <= fields <= 999999999:
                    self.assertEqual(read_word(word), ("header", kind, fields))
                    self.assertEqual(header_word(kind, fields), word)
                else:
                    self.assertIsNone(read_word(word))
                    with self.assertRaises(InvalidNumber) as caught:
                        header_word(kind, fields)
                    self.assertEqual(caught.exception.given, fields)
        for c in range(3, 8):
            for fields in (0, 1, 2, 3):
                self.assertIsNone(read_word(4 * (8 * fields + c) + 3))

    def test_no_words(self):
        for value in odd_values() + [True, False, "4", (4,), -1, -2, -3]:
            self.assertIsNone(read_word(value))
        self.assertEqual(read_word(-4), ("number", -1))

    def test_wrong_arguments(self):
        for value in odd_values() + [True, "1"]:
            for call in (number_word, address_word, mark_word, lambda told: header_word("closure", told)):
                with self.assertRaises(InvalidNumber) as caught:
                    call(value)
                self.assertIs(caught.exception.given, value)
        for value in odd_values() + ["Pair", "pairs", ("pair",), ["box"]]:
            with self.assertRaises(InvalidName) as caught:
                header_word(value, None)
            self.assertIs(caught.exception.given, value)

    def test_by_name(self):
        self.assertEqual([header_word(fields=1, kind="box"), number_word(number=3), mark_word(mark=3),
                          address_word(place=3), read_word(word=13)], [43, 12, 14, 13, ("address", 3)])


class LaidOut(unittest.TestCase):
    def test_all_words(self):
        code = (((0, 0, 1), (2, 1, 0)), ((0, -5, 0), (7, 0, 0), (0, 0, 0), (7, 0, 0)))
        memory = laid_out((21, 2, 13, 22, 3), code)
        stack = 26 + 6 + 12
        wanted = {name: 0 for name in NAMES}
        wanted.update(bodies=2, rows=4, stack=stack, top=stack, remembered=stack + 21, nursery=stack + 23, size=22,
                      young=stack + 23, first=stack + 36, half=stack + 36, old=stack + 36, pace=3)
        self.assertEqual(registers(memory), wanted)
        self.assertEqual([word % 4 for word in memory[:32]], [2] * 32)
        self.assertEqual([word // 4 for word in memory[26:32]], [0, 0, 1, 2, 1, 0])
        # A of a row number is a number, all other words of rows are marks.
        self.assertEqual(memory[32:44], (2, -20, 2, 30, 2, 2, 2, 0, 2, 30, 2, 2))
        self.assertEqual(memory[44:], (0,) * (21 + 2 + 13 + 2 * 22))

    def test_read_back(self):
        for seed in range(60):
            row = rng(seed)
            program, memory = random_machine(row)
            if memory is None:
                continue
            sizes, code = random_sizes(row), code_of(program)
            empty = laid_out(sizes, code)
            self.assertEqual((sizes_of(empty), code_at(empty)), (sizes, code))
            self.assertEqual(code_at(memory), code)
            self.assertEqual(len(empty), 26 + 3 * len(code[0]) + 3 * len(code[1]) + sum(sizes[:3]) + 2 * sizes[3])

    def test_other_functions_take_it(self):
        memory = laid_out(SIZES, code_of(source("5")))
        self.assertEqual(frames(memory), ())
        self.assertEqual([objects(memory, name) for name in ("nursery", "half", "other")], [(), (), ()])
        self.assertEqual([read_register(memory, name) for name in ("stack", "top", "half", "great")], [35, 35, 68, 0])
        self.assertEqual([area(memory, 35), in_use(memory, 34), in_use(memory, 35)], ["stack", True, False])
        self.assertEqual([led_to(memory, 4 * 68 + 1), object_at(memory, 68)], [68, None])

    def test_bounds_of_sizes(self):
        code = code_of(source("5"))
        least, most = (20, 1, 12, 20, 1), (200, 40, 60, 400, 9)
        self.assertEqual(sizes_of(laid_out(least, code)), least)
        self.assertEqual(sizes_of(laid_out(most, code)), most)
        wrong = odd_values() + [list(least), least[:4], least + (1,), (20, 1, 12, 20, True)]
        for index in range(5):
            for size in (least[index] - 1, most[index] + 1, None, "20", True, -20, 10 ** 399):
                wrong.append(least[:index] + (size,) + least[index + 1:])
        for sizes in wrong:
            with self.assertRaises(InvalidSizes) as caught:
                laid_out(sizes, code)
            self.assertIs(caught.exception.given, sizes)
        self.assertEqual(laid_out(code=code, sizes=least), laid_out(least, code))


class Registers(unittest.TestCase):
    def test_each(self):
        memory = tuple([4 * k + 2 for k in range(26)])
        for k, name in enumerate(NAMES):
            self.assertEqual(read_register(memory, name), k)
        for value in odd_values() + ["Status", "status ", "next", 0, ("row",)]:
            with self.assertRaises(InvalidName) as caught:
                read_register(memory, value)
            self.assertIs(caught.exception.given, value)
        self.assertEqual(read_register(name="row", memory=memory), 1)


def amid_both():
    """A memory amid a great collection, in which a small one goes on, too."""
    memory = begin(BUSY[1], (60, 2, 12, 60, 1))
    for _ in range(2000):
        if read_register(memory, "great") and read_register(memory, "small"):
            return memory
        memory = stepped(memory)[0]
    raise AssertionError("never both")


class Areas(unittest.TestCase):
    def bounds(self, memory):
        told = registers(memory)
        other = 2 * told["first"] + told["size"] - told["half"]
        rows = 26 + 3 * told["bodies"]
        return [
            ("registers", 0, 26, 26), ("bodies", 26, rows, rows), ("rows", rows, told["stack"], told["stack"]),
            ("stack", told["stack"], told["remembered"], told["top"]),
            ("remembered", told["remembered"], told["nursery"], told["remembered"] + told["many"]),
            ("nursery", told["nursery"], told["first"], told["young"]),
            ("half", told["half"], told["half"] + told["size"], told["old"]),
            ("other", other, other + told["size"], told["edge"] if told["great"] else other),
        ]

    def looked_at(self, memory):
        places = {}
        for name, begin_place, end, used in self.bounds(memory):
            for place in range(begin_place, end):
                places[place] = (name, place < used)
        self.assertEqual(sorted(places), list(range(len(memory))))
        for place, (name, used) in places.items():
            self.assertEqual((area(memory, place), in_use(memory, place)), (name, used), place)
        for place in (len(memory), len(memory) + 1, 999999999):
            self.assertIsNone(area(memory, place))
            self.assertIs(in_use(memory, place), False)

    def test_each_place(self):
        first = begin("(boxes b 1 (put b (pair 1 2)))")
        self.looked_at(first)
        self.looked_at(run(first, 5)[0])
        great = begun_great(first)
        self.looked_at(great)
        self.looked_at(great_step(great_step(great_step(great))))
        self.looked_at(run(great, 60)[0])
        self.looked_at(begun_small(run(first, 4)[0]))

    def test_amid_random_runs(self):
        for seed in range(40):
            row = rng(seed)
            _, memory = random_machine(row)
            if memory is not None:
                self.looked_at(run(memory, row.randrange(200))[0])

    def test_wrong_places(self):
        memory = begin("5")
        for value in odd_values() + [True, "0", (0,), -1, 1000000000]:
            if value == 0 and not isinstance(value, bool):
                continue
            for call in (area, in_use, object_at):
                with self.assertRaises(InvalidNumber) as caught:
                    call(memory, value)
                self.assertIs(caught.exception.given, value)
        self.assertEqual([call(place=0, memory=memory) for call in (area, in_use, object_at)],
                         ["registers", True, None])


class Objects(unittest.TestCase):
    def test_led_to(self):
        memory = begin("(pair 1 2)")
        half, length = read_register(memory, "half"), len(memory)
        self.assertEqual(led_to(memory, 4 * half + 1), half)
        self.assertEqual(led_to(memory, 1), 0)
        self.assertEqual(led_to(memory, 4 * (length - 1) + 1), length - 1)
        for word in [4 * length + 1, 4 * 999999999 + 1, 4 * 1000000000 + 1, -3, 4 * half, 4 * half + 2, 4 * half + 3]:
            self.assertIsNone(led_to(memory, word))
        for word in odd_values():
            self.assertIsNone(led_to(memory, word))

    def test_led_to_where_an_address_stands(self):
        memory = begin("(pair 1 2)")
        stack, nursery = read_register(memory, "stack"), read_register(memory, "nursery")
        # In the stack the address of the closure stands; in a free place any address counts, wherever it leads.
        self.assertEqual(led_to(memory, 4 * (stack + 2) + 1), read_register(memory, "half"))
        for target in (0, 5, len(memory), 999999999):
            changed = memory[:nursery] + (4 * target + 1,) + memory[nursery + 1:]
            self.assertEqual(led_to(changed, 4 * nursery + 1), target)
        # Only one address is read through.
        chain = memory[:nursery] + (4 * (nursery + 1) + 1, 4 * 7 + 1) + memory[nursery + 2:]
        self.assertEqual(led_to(chain, 4 * nursery + 1), nursery + 1)

    def test_object_at(self):
        memory = begin("(boxes b 3 (pair b (fn x b)))", (20, 1, 12, 20, 1))
        half = read_register(memory, "half")
        self.assertEqual(object_at(memory, half), ("box", (12,)))
        self.assertEqual(object_at(memory, half + 2), ("closure", (2, 4 * half + 1)))
        # The closure's field is an address, which counts as a signpost does.
        self.assertEqual(object_at(memory, half + 4), ("box", (12,)))
        for place in (half + 1, half + 3, half + 5, 0, 26, len(memory), 999999999):
            self.assertIsNone(object_at(memory, place))

    def test_object_at_free_places_and_signposts(self):
        memory = begin("5")
        nursery, end = read_register(memory, "nursery"), len(memory)

        def changed(**words):
            told = list(memory)
            for place, word in words.items():
                told[int(place[1:])] = word
            return tuple(told)

        self.assertEqual(object_at(changed(**{f"p{nursery}": 71}), nursery), ("pair", (0, 0)))
        self.assertEqual(object_at(changed(**{f"p{end - 3}": 71}), end - 3), ("pair", (0, 0)))
        self.assertIsNone(object_at(changed(**{f"p{end - 2}": 71}), end - 2))
        self.assertIsNone(object_at(changed(**{f"p{end - 1}": 43}), end - 1))
        self.assertEqual(object_at(changed(**{f"p{end - 2}": 43}), end - 2), ("box", (0,)))
        post = changed(**{f"p{nursery}": 4 * (end - 3) + 1, f"p{end - 3}": 71})
        self.assertEqual(object_at(post, nursery), ("pair", (0, 0)))
        self.assertIsNone(object_at(changed(**{f"p{nursery}": 4 * (end - 2) + 1, f"p{end - 2}": 71}), nursery))
        self.assertIsNone(object_at(changed(**{f"p{nursery}": 4 * end + 1}), nursery))
        self.assertIsNone(object_at(changed(**{f"p{nursery}": 4 * 999999999 + 1}), nursery))
        two = changed(**{f"p{nursery}": 4 * (nursery + 1) + 1, f"p{nursery + 1}": 4 * (end - 3) + 1, f"p{end - 3}": 71})
        self.assertIsNone(object_at(two, nursery))
        self.assertEqual(object_at(two, nursery + 1), ("pair", (0, 0)))

    def test_objects_amid_a_small_collection(self):
        memory = run(begin("(pair (pair 1 2) (box 3))", (20, 1, 12, 40, 1)), 5)[0]
        nursery, half = read_register(memory, "nursery"), read_register(memory, "half")
        self.assertEqual(objects(memory, "nursery"), ((nursery, "pair", None), (nursery + 3, "box", None)))
        self.assertEqual(objects(memory, "half"), ((half, "closure", None),))
        self.assertEqual(objects(memory, "other"), ())
        memory = run(begun_small(memory), 5)[0]
        self.assertEqual(objects(memory, "nursery"), ((nursery, "pair", half + 2), (nursery + 3, "box", None)))
        self.assertEqual(objects(memory, "half"), ((half, "closure", None), (half + 2, "pair", None)))
        memory = run(memory, 1)[0]
        self.assertEqual(objects(memory, "nursery"), ((nursery, "pair", half + 2), (nursery + 3, "box", half + 5)))

    def test_objects_amid_a_great_collection(self):
        memory = begin("(boxes a 1 b 2 (pair a b))", (20, 1, 12, 40, 1))
        half = read_register(memory, "half")
        great = begun_great(memory)
        self.assertEqual(objects(great, "half"), ())
        self.assertEqual(objects(great, "other"),
                         ((half, "box", None), (half + 2, "box", None), (half + 4, "closure", None)))
        for _ in range(3):
            great = great_step(great)
        self.assertEqual(objects(great, "half"), ((half + 40, "closure", None),))
        self.assertEqual(objects(great, "other")[2], (half + 4, "closure", half + 40))
        while read_register(great, "great"):
            great = great_step(great)
        self.assertEqual(objects(great, "other"), ())
        self.assertEqual([kind for _, kind, _ in objects(great, "half")], ["closure", "box", "box"])

    def test_amid_both(self):
        memory = amid_both()
        self.assertEqual([read_register(memory, name) for name in ("great", "small")], [1, 1])
        for name in ("nursery", "half", "other"):
            for place, kind, copy in objects(memory, name):
                self.assertEqual(object_at(memory, place)[0], kind)
                self.assertEqual(led_to(memory, 4 * place + 1), place if copy is None else copy)

    def test_wrong_names(self):
        memory = begin("5")
        for value in odd_values() + ["stack", "Half", "both", None, ("half",)]:
            with self.assertRaises(InvalidName) as caught:
                objects(memory, value)
            self.assertIs(caught.exception.given, value)
        self.assertEqual(objects(name="nursery", memory=memory), ())


class Frames(unittest.TestCase):
    def test_the_bottom_frame(self):
        memory = begin("(pair 1 2)")
        stack = read_register(memory, "stack")
        self.assertEqual(frames(memory), ((stack + 2, 0, ()),))
        self.assertEqual(frames(run(memory, 1)[0]), ((stack + 2, 1, (4,)),))
        self.assertEqual(frames(run(memory, 2)[0]), ((stack + 2, 2, (4, 8)),))
        self.assertEqual(frames(run(memory, 9)[0]), ())

    def test_callers(self):
        memory = begin("(plus 9 (call (fn x (plus 8 (call (fn y (plus y 7)) x))) 3))", (40, 1, 12, 20, 1))
        stack = read_register(memory, "stack")
        inside = run(memory, 4)[0]
        self.assertEqual(frames(inside), ((stack + 7, 6, ()), (stack + 2, 4, (36,))))
        inside = run(inside, 3)[0]
        self.assertEqual(frames(inside)[1:], ((stack + 2, 4, (36,)),))
        self.assertEqual([word % 4 for word in frames(inside)[0][2]], [0, 1, 0])
        inside = run(inside, 1)[0]
        self.assertEqual(frames(inside), ((stack + 12, 12, ()), (stack + 7, 10, (32,)), (stack + 2, 4, (36,))))

    def test_in_other_statuses(self):
        memory = begin("(plus 1 (first 2))")
        failed = run(memory, 9)[0]
        self.assertEqual(read_register(failed, "status"), 2)
        self.assertEqual(frames(failed), ((read_register(memory, "stack") + 2, 2, (4, 8)),))
        self.assertEqual(sizes_of(failed), SMALL_SIZES)


if __name__ == "__main__":
    unittest.main()
