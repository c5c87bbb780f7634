"""Points 54 and 55: the console's changes, undoing, trials, lines, and what is kept."""

import unittest

from formstead.collector import collected
from formstead.console import Console
from formstead.errors import (
    DoesNotStand, FormError, InvalidBook, InvalidName, InvalidNames, InvalidNumber, InvalidSizes, InvalidText, NoRoom,
    NotMended, NotNow, NoValue, TooGreat,
)
from formstead.images import blank, is_mended, mended, saved, saving, taken_up, written
from formstead.machine import begun
from formstead.memory import read_register
from formstead.plain import go_on
from formstead.rest import rest, rest_text
from formstead.runs import run
from formstead.sound import is_sound
from formstead.texts import read_source
from tests.helpers import BOOK, LET, TWICE, odd_values, rng
from tests.machines import BUSY, ROOMY, SMALL_SIZES, source

SAYING = "(pair (say 1) (pair (say 2) (say 3)))"
ODD = [value for value in odd_values() if not isinstance(value, tuple)]
# A run whose values grow until they are no programs any more.
GROWING = "(call (again f x (call f (pair x x))) 1)"


def state(console):
    """All that a console tells."""
    told = (console.book, console.sizes, console.device, console.memory, console.said, console.outcome)
    if console.memory is None:
        return told
    try:
        return told + (console.rest(),)
    except TooGreat:
        return told


def history(console):
    """All that undoing leads to, the console staying what it is."""
    found = []
    with console.trial():
        while True:
            found.append(state(console))
            try:
                console.undo()
            except NotNow:
                return found


def loaded(text=SAYING, book=(), **more):
    console = Console(book, **more)
    console.load(text)
    return console


class Base(unittest.TestCase):
    def refuses(self, console, error, call, *given, **more):
        """An error, its attributes, and nothing that is changed; undoing neither."""
        before, ahead = state(console), history(console)
        with self.assertRaises(error) as caught:
            call(*given, **more)
        self.assertEqual(state(console), before)
        self.assertEqual(history(console), ahead)
        return caught.exception


class Beginning(Base):
    def test_defaults(self):
        console = Console(BOOK)
        self.assertEqual(state(console), (BOOK, (60, 8, 30, 200, 3), blank(2000), None, (), "none"))
        console = Console((), sizes=SMALL_SIZES, width=26)
        self.assertEqual(state(console), ((), SMALL_SIZES, blank(26), None, (), "none"))
        self.assertEqual(state(Console(book=(LET,), width=9000)), ((LET,), (60, 8, 30, 200, 3), blank(9000), None, (),
                                                                   "none"))
        self.assertRaises(TypeError, Console, (), SMALL_SIZES)

    def test_errors_in_their_order(self):
        for book, index in [(value, None) for value in ODD] + [((LET, LET), 1)]:
            with self.assertRaises(InvalidBook) as caught:
                Console(book, sizes=None, width=None)
            self.assertEqual(caught.exception.index, index)
        for sizes in odd_values() + [(19, 1, 12, 20, 1), (20, 1, 12, 401, 1), list(SMALL_SIZES), (20, 1, 12, 20, True)]:
            with self.assertRaises(InvalidSizes) as caught:
                Console((), sizes=sizes, width=None)
            self.assertIs(caught.exception.given, sizes)
        for width in odd_values() + [25, 9001, True, -1]:
            with self.assertRaises(InvalidNumber) as caught:
                Console((), sizes=SMALL_SIZES, width=width)
            self.assertIs(caught.exception.given, width)

    def test_without_a_machine(self):
        console = Console(())
        for call in (console.step, console.rest, console.collect, console.save, console.undo):
            self.refuses(console, NotNow, call)
        self.refuses(console, NotNow, console.resize, SMALL_SIZES)
        self.refuses(console, NotNow, console.cut, 0)
        self.assertIs(console.take(), False)
        self.assertEqual(console.answer("said"), "")
        self.assertEqual(console.answer("outcome"), "none")

    def test_consoles_do_not_share_anything(self):
        one, other = Console(()), Console(())
        one.load("5")
        self.assertEqual([one.outcome, other.outcome], ["runs", "none"])


class Loading(Base):
    def test_what_is_begun(self):
        console = Console(BOOK, sizes=SMALL_SIZES)
        self.assertIsNone(console.load("(let 3 x (plus x 1))"))
        self.assertEqual(console.memory, begun(source("(call (fn x (plus x 1)) 3)"), SMALL_SIZES))
        self.assertEqual([console.outcome, console.said, console.rest()], ["runs", (), "(let 3 x1 (plus x1 1))"])
        console.step(100)
        console.load(text="(boxes b 3 c 4 c)")
        self.assertEqual(console.rest(), "(boxes b1 4 b1)")

    def test_what_was_said_is_forgotten(self):
        console = loaded()
        console.step(100)
        self.assertEqual(console.said, (1, 2, 3))
        console.load("(say 7)")
        self.assertEqual(console.said, ())
        console.step(100)
        self.assertEqual(console.said, (7,))
        console.undo()
        console.undo()
        self.assertEqual(console.said, (1, 2, 3))

    def test_errors(self):
        console = loaded("(say 5)", BOOK, sizes=SMALL_SIZES)
        console.step(2)
        for text, place in [(value, None) for value in ODD if not isinstance(value, str)] + [
                (("5",), None), ("x" * 100001, None), ("", 0), ("   ", 3), ("(plus 1)", 7), ("(plus 1 05)", 8),
                ("(let 3 x y)", 9), ("A", 0), ("(boxes b 1 b 2 b)", 11)]:
            self.assertEqual(self.refuses(console, InvalidText, console.load, text).place, place)
        self.refuses(console, TooGreat, console.load, long_text(1501))
        self.refuses(console, TooGreat, console.load, deep_text(61))
        # Great only when opened, and ahead of a box that holds no value.
        self.refuses(console, TooGreat, console.load, "(boxes b (say 1) " + lets(31) + ")")
        error = self.refuses(console, NoValue, console.load, "(boxes a 1 b (twice 3) c (say 1) a)")
        self.assertEqual(error.index, 1)
        self.refuses(console, NoValue, console.load, "(boxes a (say 1) a)")
        self.refuses(console, NoRoom, console.load, "(boxes a 1 b 1 c 1 d 1 e 1 f 1 g 1 7)")
        self.assertEqual(state(console)[4:], ((5,), "runs", "5"))


def long_text(length):
    """A text of so many parts, none of them deep."""
    rows = ["1"] * ((length + 1) // 2)
    while len(rows) > 1:
        rows = [f"(plus {one} {other})" for one, other in zip(rows[::2], rows[1::2])] + rows[len(rows) // 2 * 2:]
    return rows[0]


def deep_text(depth):
    """A text of a term of a depth within the limits of brackets."""
    return "(say " * (depth - 1) + "1" + ")" * (depth - 1)


def lets(many):
    """Uses of let one within another, each of which is two deep when it is opened."""
    return "(let 1 x " * many + "1" + ")" * many


class Stepping(Base):
    def test_steps(self):
        console = loaded()
        self.assertEqual([console.step(), console.step(1), console.step(steps=1), console.said], [(), (1,), (), (1,)])
        self.assertEqual([console.step(2), console.said], [(2,), (1, 2)])
        self.assertEqual(console.step(0), ())
        self.assertEqual([console.step(100000), console.said], [(3,), (1, 2, 3)])
        self.assertEqual([console.outcome, console.rest()], ["ended", "(pair 1 (pair 2 3))"])
        self.assertEqual(console.memory, run(begun(source(SAYING), console.sizes), 100)[0])

    def test_the_same_as_run(self):
        for text in BUSY:
            console, memory, said = loaded(text, sizes=SMALL_SIZES), begun(source(text), SMALL_SIZES), ()
            for steps in (1, 0, 7, 30, 200, 999):
                memory, more = run(memory, steps)
                said += more
                self.assertEqual(console.step(steps), more)
                self.assertEqual([console.memory, console.said], [memory, said])

    def test_errors(self):
        console = loaded()
        bare = Console(())
        for steps in ODD + [-1, 100001, True, "1", (1,)]:
            for told in (console, bare):
                self.assertIs(self.refuses(told, InvalidNumber, told.step, steps).given, steps)
        self.refuses(bare, NotNow, bare.step, 0)

    def test_no_step_is_a_change_too(self):
        console = loaded()
        console.step(0)
        console.undo()
        self.assertEqual(console.outcome, "runs")
        console.undo()
        self.assertEqual(console.outcome, "none")


class Resting(Base):
    def test_in_the_words_of_the_book(self):
        console = loaded("(call (fn y (plus y y)) (plus 1 2))", (LET, TWICE))
        self.assertEqual(console.rest(), "(twice (plus 1 2))")
        self.assertEqual(console.rest(), rest_text((LET, TWICE), console.memory))
        console.step(4)
        self.assertEqual(console.rest(), "(twice 3)")
        # It is no change.
        console.undo()
        self.assertEqual(console.rest(), "(twice (plus 1 2))")

    def test_too_great(self):
        console = loaded(GROWING)
        console.step(200)
        self.refuses(console, TooGreat, console.rest)
        self.refuses(console, TooGreat, console.resize, ROOMY)
        self.refuses(console, TooGreat, console.answer, "rest")


class Collecting(Base):
    def test_whole_collections(self):
        console = loaded(BUSY[0])
        console.step(150)
        before, told = console.memory, console.rest()
        self.assertIs(console.collect(), True)
        self.assertEqual(console.memory, collected(before))
        self.assertEqual(console.rest(), told)
        console.undo()
        self.assertEqual(console.memory, before)

    def test_where_there_is_none(self):
        # A half so full that what is in the nursery has no room, amid a run that goes on.
        for text in BUSY[1:3]:
            for size in range(20, 60):
                console = loaded(text, sizes=(60, 8, 30, size, 1))
                for _ in range(300):
                    console.step(3)
                    if console.outcome == "runs" and collected(console.memory) is None:
                        memory = console.memory
                        self.assertIs(console.collect(), False)
                        self.assertEqual(console.memory, memory)
                        self.assertEqual(console.answer("collect"), "no")
                        # It counts as a change, too.
                        console.undo()
                        console.undo()
                        self.assertEqual(console.memory, memory)
                        console.undo()
                        self.assertNotEqual(console.memory, memory)
                        return
                    if console.outcome != "runs":
                        break
        self.fail("there always was one")

    def test_not_out_of_room(self):
        console = loaded(BUSY[1], sizes=SMALL_SIZES)
        console.step(9999)
        self.assertEqual(console.outcome, "room")
        self.refuses(console, NotNow, console.collect)
        for text in ("5", "(first 1)", "(plus 999999999 1)"):
            console = loaded(text, sizes=(20, 1, 12, 60, 1))
            console.step(99)
            told = console.outcome
            self.assertIs(console.collect(), True)
            self.assertEqual(console.outcome, told)


class Resizing(Base):
    def test_what_was_said_stays(self):
        console = loaded(sizes=SMALL_SIZES)
        console.step(5)
        said, told = console.said, console.rest()
        self.assertNotEqual(said, ())
        self.assertIsNone(console.resize(ROOMY))
        self.assertEqual([console.said, console.rest(), console.sizes], [said, told, ROOMY])
        self.assertEqual(console.memory, begun(read_source((), told), ROOMY))
        console.step(99)
        self.assertEqual(console.said, (1, 2, 3))
        console.load("5")
        self.assertEqual(console.memory, begun(source("5"), ROOMY))
        for _ in range(3):
            console.undo()
        self.assertEqual([console.sizes, console.rest()], [SMALL_SIZES, told])
        console.resize(sizes=(20, 2, 12, 20, 1))
        self.assertEqual(console.sizes, (20, 2, 12, 20, 1))

    def test_out_of_room_it_goes_on(self):
        text = BUSY[1]
        console = loaded(text, sizes=SMALL_SIZES)
        console.step(9999)
        self.assertEqual(console.outcome, "room")
        told = console.rest()
        console.resize(ROOMY)
        self.assertEqual([console.outcome, console.rest()], ["runs", told])
        console.step(99999)
        self.assertEqual(rest(console.memory), go_on(source(text), 1000)[1])

    def test_errors(self):
        bare, console = Console(()), loaded("(boxes a 1 b 1 c 1 d 1 e 1 f 1 (pair a (pair b (pair c (pair d e)))))")
        for sizes in odd_values() + [(19, 1, 12, 20, 1), list(ROOMY)]:
            for told in (bare, console):
                self.assertIs(self.refuses(told, InvalidSizes, told.resize, sizes).given, sizes)
        self.refuses(bare, NotNow, bare.resize, ROOMY)
        self.assertIsNone(console.resize(SMALL_SIZES))
        console = loaded("(boxes a (pair 1 2) b (pair a a) c (pair b b) d (pair c c) d)")
        self.refuses(console, NoRoom, console.resize, SMALL_SIZES)
        # TooGreat comes ahead of NoRoom.
        console = loaded(GROWING)
        console.step(200)
        self.refuses(console, TooGreat, console.resize, SMALL_SIZES)


class Saving(Base):
    def test_saved_and_taken(self):
        console = loaded()
        console.step(3)
        memory, device = console.memory, saved(blank(2000), console.memory)
        self.assertIsNone(console.save())
        self.assertEqual([console.device, console.memory], [device, memory])
        console.step(99)
        self.assertEqual(console.said, (1, 2, 3))
        self.assertIs(console.take(), True)
        self.assertEqual([console.memory, console.said, console.device], [memory, (1, 2, 3), device])
        console.undo()
        self.assertEqual(console.outcome, "ended")

    def test_too_narrow(self):
        console = loaded(width=26)
        self.refuses(console, NoRoom, console.save)
        self.refuses(console, NoRoom, console.cut, 0)
        width = len(console.memory)
        narrow = loaded(width=width - 1)
        self.refuses(narrow, NoRoom, narrow.save)
        self.assertIsNone(loaded(width=width).save())
        self.assertIs(console.take(), False)
        self.assertEqual(console.outcome, "none")

    def test_cut(self):
        console = loaded(width=700)
        console.save()
        console.step(4)
        memory, first = console.memory, taken_up(console.device)
        writes = saving(console.device, memory)
        for many in list(range(0, len(writes) + 1, 7)) + [len(writes) - 1, len(writes)]:
            for torn in (None, 0, 7, 2, 10 ** 30) if many < len(writes) else (None,):
                with console.trial():
                    said, sizes = console.said, console.sizes
                    self.assertIsNone(console.cut(many, torn))
                    self.assertEqual([console.memory, console.outcome, console.said, console.sizes],
                                     [None, "none", said, sizes])
                    self.assertEqual(console.device, written(blank_with(first, 700), writes, many, torn))
                    for call in (console.step, console.rest, console.collect, console.save):
                        self.assertRaises(NotNow, call)
                    cut = console.device
                    self.assertIs(console.take(), True)
                    self.assertIn(console.memory, (first, memory))
                    self.assertEqual(console.memory, taken_up(mended(cut)))
                    self.assertTrue(is_mended(console.device))
                    console.undo()
                    self.assertEqual([console.device, console.memory], [cut, None])
                    console.undo()
                    self.assertEqual(console.memory, memory)
        self.assertIsNone(console.cut(torn=1, many=0))

    def test_nothing_was_saved_before(self):
        console = loaded()
        console.cut(5)
        self.assertIs(console.take(), False)
        self.assertEqual([console.outcome, is_mended(console.device)], ["none", True])
        console = loaded()
        console.cut(0, 9)
        self.assertFalse(is_mended(console.device) and console.device[0])
        self.assertIs(console.take(), False)

    def test_not_mended(self):
        # A HEAD is 0 already on a blank device; it is the second saving of a slot that leaves one that is cut.
        console = loaded()
        console.save()
        console.save()
        console.step()
        memory = console.memory
        console.cut(0, 9)
        self.assertFalse(is_mended(console.device))
        console.load("(say 6)")
        self.refuses(console, NotMended, console.save)
        self.refuses(console, NotMended, console.cut, None)
        self.refuses(console, NotMended, console.cut, 0, True)
        self.assertIs(console.take(), True)
        self.assertNotEqual(console.memory, memory)
        self.assertIsNone(console.save())

    def test_errors_of_cut_in_their_order(self):
        bare, narrow, console = Console(()), loaded(width=26), loaded()
        writes = saving(console.device, console.memory)
        for many in ODD + [-1, True, len(writes) + 1, (1,)]:
            self.refuses(bare, NotNow, bare.cut, many, True)
            self.refuses(narrow, NoRoom, narrow.cut, many, True)
            self.assertIs(self.refuses(console, InvalidNumber, console.cut, many, True).given, many)
        for torn in (True, False, "1", (), [1]):
            self.assertIs(self.refuses(console, InvalidNumber, console.cut, 0, torn).given, torn)
        for torn in (0, 5, -1):
            self.assertEqual(self.refuses(console, InvalidNumber, console.cut, len(writes), torn).given, torn)
        self.assertIsNone(console.cut(len(writes), None))
        self.assertIs(console.take(), True)


def blank_with(memory, width):
    return saved(blank(width), memory)


class Undoing(Base):
    def test_through_each_kind_of_change(self):
        console = Console((LET,), sizes=SMALL_SIZES, width=900)
        changes = [
            lambda: console.load(SAYING), lambda: console.step(), lambda: console.step(0), lambda: console.collect(),
            lambda: console.resize((40, 2, 20, 60, 3)), lambda: console.save(), lambda: console.step(4),
            lambda: console.save(), lambda: console.cut(3), lambda: console.take(), lambda: console.load("(first 1)"),
            lambda: console.step(5), lambda: console.save(), lambda: console.cut(0, 5), lambda: console.take(),
        ]
        states = [state(console)]
        for change in changes:
            change()
            states.append(state(console))
            self.assertEqual(history(console), states[::-1])
        for told in states[-2::-1]:
            self.assertIsNone(console.undo())
            self.assertEqual(state(console), told)
        self.refuses(console, NotNow, console.undo)
        # It is no change itself: a change behind it leads on from there.
        console.load("7")
        console.undo()
        self.assertEqual(state(console), states[0])
        self.refuses(console, NotNow, console.undo)

    def test_errors_are_no_changes(self):
        console = loaded("5")
        for call in (lambda: console.step(-1), lambda: console.load("("), lambda: console.cut(-1),
                     lambda: console.resize(None), lambda: console.answer("nothing"), lambda: console.tried(None)):
            self.assertRaises(FormError, call)
        console.undo()
        self.assertEqual(console.outcome, "none")
        self.assertRaises(NotNow, console.undo)


class Trials(Base):
    def everything(self, console):
        console.load("(pair (say 8) 9)")
        console.step(5)
        console.collect()
        console.save()
        console.resize(ROOMY)
        console.cut(2)
        console.take()

    def test_behind_it_all_is_as_before(self):
        for console in (Console(BOOK), loaded(book=BOOK)):
            before, ahead = state(console), history(console)
            with console.trial() as tested:
                self.assertIs(tested, console)
                self.everything(console)
                self.assertNotEqual(state(console), before)
            self.assertEqual(state(console), before)
            self.assertEqual(history(console), ahead)

    def test_with_an_error(self):
        console = loaded()
        before, ahead = state(console), history(console)
        for error in (NotNow, DoesNotStand, KeyError, ZeroDivisionError):
            with self.assertRaises(error):
                with console.trial():
                    self.everything(console)
                    raise error()
            self.assertEqual(state(console), before)
            self.assertEqual(history(console), ahead)
        with self.assertRaises(InvalidNumber):
            with console.trial():
                console.step(3)
                console.step(-1)
        self.assertEqual(state(console), before)

    def test_within_another(self):
        console = loaded()
        before = state(console)
        with console.trial():
            console.step(2)
            amid = state(console)
            with console.trial():
                self.everything(console)
                with self.assertRaises(NotNow):
                    with console.trial():
                        console.load("6")
                        raise NotNow()
                console.undo()
            self.assertEqual(state(console), amid)
            console.undo()
            self.assertEqual(state(console), before)
        self.assertEqual(state(console), before)

    def test_undoing_within_and_behind(self):
        console = loaded()
        console.step(3)
        before, ahead = state(console), history(console)
        with console.trial():
            console.undo()
            console.undo()
            self.assertEqual(console.outcome, "none")
            self.assertRaises(NotNow, console.undo)
            console.load("4")
        self.assertEqual(state(console), before)
        self.assertEqual(history(console), ahead)
        console.undo()
        self.assertEqual([console.outcome, console.rest()], ["runs", SAYING])

    def test_nothing_until_it_is_entered(self):
        console = Console(())
        trial = console.trial()
        console.load("5")
        with trial as tested:
            tested.step(9)
        self.assertEqual([console.outcome, console.rest()], ["runs", "5"])

    def test_an_object_that_is_entered_twice(self):
        # Each one is entered once; whoever enters one again finds what was ahead of each entering.
        console = loaded()
        before, trial = state(console), console.trial()
        with trial:
            console.step(2)
            amid = state(console)
            with trial:
                console.step(3)
            self.assertEqual(state(console), amid)
        self.assertEqual(state(console), before)
        console.step(4)
        before = state(console)
        with trial:
            console.undo()
        self.assertEqual(state(console), before)


class Answers(Base):
    def test_each_line(self):
        console = Console((LET,), sizes=(40, 2, 20, 90, 3))
        for line, wanted in (
                ("outcome", "none"), ("said", ""), ("take", "no"), ("load (pair (say 1) (let (say 2) x x))", "done"),
                ("rest", "(pair (say 1) (let (say 2) x1 x1))"), ("step 0", ""), ("step 2", "1"), ("said", "1"),
                ("save", "done"), ("step 9", "2"), ("said", "1 2"), ("outcome", "ended"), ("collect", "yes"),
                ("rest", "(pair 1 2)"), ("cut 0", "done"), ("outcome", "none"), ("take", "yes"),
                ("rest", "(pair 1 (let (say 2) x1 x1))"), ("undo", "done"), ("outcome", "none"), ("undo", "done"),
                ("rest", "(pair 1 2)"), ("load (pair (say -3) (pair (say 0) (say 44)))", "done"),
                ("step 100000", "-3 0 44"), ("said", "-3 0 44"), ("load (first 1)", "done"), ("step 9", ""),
                ("outcome", "kind"), ("load  5", "done"), ("rest", "5"), ("load \n5 \n", "done"),
                ("load 5", "done"), ("load (plus 999999999 1)", "done"), ("step 9", ""), ("outcome", "great"),
        ):
            self.assertEqual(console.answer(line), wanted, line)
        self.assertEqual(console.answer(line="said"), "")

    def test_the_same_as_the_method(self):
        one, other = loaded(), loaded()
        for line, call in (
                ("step 3", lambda: other.step(3)), ("save", lambda: other.save()), ("step 0", lambda: other.step(0)),
                ("collect", lambda: other.collect()), ("cut 7", lambda: other.cut(7)), ("take", lambda: other.take()),
                ("undo", lambda: other.undo()), ("load (say 5)", lambda: other.load("(say 5)")),
        ):
            one.answer(line)
            call()
            self.assertEqual(state(one), state(other))
            self.assertEqual(len(history(one)), len(history(other)))

    def test_bent_lines(self):
        console = loaded()
        for line in [value for value in odd_values()] + [
                "", " ", "load", "step", "cut", "step ", "cut ", " step 1", "step 1 ", "step  1", "step 1 2", "step\n1",
                "step 1\n", "step 00", "step 01", "step -1", "step +1", "step -0", "step 1234567890", "step x", "step 1.0",
                "step 1_0", "step \u0661", "step \u00b2", "cut 00", "cut -1", "cut 3 7", "cut  3", "cut x", "rest ",
                " rest", "rest 1", "said ", "outcome ", "outcome\n", "collect 1", "save ", "save 1", "take ", "take 0",
                "undo 1", "undo ", "Rest", "RESTS", "rests", "load(5)", "load\n5", "\nload 5", "resize 1", "trial",
                "tried", "memory", "device", "step1", "step\t1", "load\t5"]:
            self.assertIs(self.refuses(console, InvalidName, console.answer, line).given, line)
        for value in (None, 5, True, b"rest", ["rest"], ("rest",)):
            self.assertIs(self.refuses(console, InvalidName, console.answer, value).given, value)

    def test_errors_of_the_methods(self):
        console, bare = loaded("5"), Console(())
        for line in ("step 1", "rest", "collect", "save", "cut 0", "undo", "cut 999999999"):
            self.refuses(bare, NotNow, bare.answer, line)
        self.assertEqual(self.refuses(bare, InvalidNumber, bare.answer, "step 100001").given, 100001)
        self.assertEqual(self.refuses(console, InvalidNumber, console.answer, "step 999999999").given, 999999999)
        self.assertEqual(self.refuses(console, InvalidNumber, console.answer, "cut 999999999").given, 999999999)
        for line, place in (("load ", 0), ("load   ", 2), ("load (plus 1)", 7), ("load  (plus 1)", 8), ("load A", 0),
                            ("load \n\n", 2), ("load 5 ", None), ("load rest", 0)):
            if place is not None:
                self.assertEqual(self.refuses(console, InvalidText, console.answer, line).place, place)
            else:
                self.assertEqual(console.answer(line), "done")
        self.refuses(console, NoValue, console.answer, "load (boxes b (say 1) b)")


class Tried(Base):
    def test_answers(self):
        console = loaded()
        before, ahead = state(console), history(console)
        self.assertEqual(console.tried(("step 3", "said", "load 5", "rest", "undo", "undo", "undo", "outcome")),
                         ("1", "1", "done", "5", "done", "done", "done", "none"))
        self.assertEqual(console.tried(()), ())
        self.assertEqual(console.tried(lines=("rest",) * 20), (SAYING,) * 20)
        self.assertEqual(state(console), before)
        self.assertEqual(history(console), ahead)

    def test_wrong_lines(self):
        console = loaded()
        for lines in ODD + [["rest"], ("rest",) * 21, ("rest",) * 20000, None, "rest"]:
            self.assertIsNone(self.refuses(console, InvalidNames, console.tried, lines).index)
        for line in (None, 5, True, b"rest", ("rest",), ["rest"], {}):
            for ahead in ((), ("rest",), ("nothing", "step 1", "")):
                error = self.refuses(console, InvalidNames, console.tried, ahead + (line, None))
                self.assertEqual(error.index, len(ahead))

    def test_an_error_amid_them(self):
        console = loaded()
        self.assertEqual(self.refuses(console, InvalidName, console.tried, ("step 3", "load 5", "nothing", "undo")).given,
                         "nothing")
        self.refuses(console, NotNow, console.tried, ("cut 0", "step 1", "nothing"))
        self.refuses(console, InvalidText, console.tried, ("step 2", "load (", "rest"))
        self.refuses(console, NotNow, console.tried, ("undo", "undo", "undo"))


def first_steps(program, many):
    """What comes of a program by no, one, two and more plain steps, with what is said in them."""
    said = ()
    yield program, said
    for _ in range(many):
        made, program, more = go_on(program, 1)
        said += more
        if made == 0:
            return
        yield program, said


class WhatIsKept(unittest.TestCase):
    def test_whatever_is_done_the_rest_is_what_the_plain_meaning_makes(self):
        kept = 0
        for seed in range(60):
            row = rng(seed)
            text = row.choice(BUSY + (SAYING,))
            console = loaded(text, row.choice([(), BOOK]), sizes=(60, 8, 30, row.choice([60, 200]), 2))
            saved_rest = None
            for _ in range(25):
                before, said = rest(console.memory), console.said
                what = row.choice(["step", "step", "collect", "resize", "save", "undo", "cut"])
                if what == "step":
                    told = console.step(row.randrange(40))
                    self.assertIn((rest(console.memory), told), list(first_steps(before, 40)))
                    self.assertEqual(console.said, said + told)
                elif what == "cut":
                    many = row.randrange(len(saving(console.device, console.memory)))
                    console.cut(many, row.choice([None, 0, 1, 9]))
                    if not console.take():
                        self.assertIsNone(saved_rest)
                        console.undo()
                        console.undo()
                    else:
                        self.assertIn(rest(console.memory), (saved_rest, before))
                        saved_rest = rest(console.memory)
                elif what == "undo":
                    console.step(3)
                    console.undo()
                    self.assertEqual([rest(console.memory), console.said], [before, said])
                elif what == "collect" and console.outcome != "room" or what == "save":
                    console.collect() if what == "collect" else console.save()
                    self.assertEqual([rest(console.memory), console.said], [before, said])
                    saved_rest = before if what == "save" else saved_rest
                elif what == "resize":
                    try:
                        console.resize((40, 4, 20, row.choice([60, 90, 300]), 1))
                    except NoRoom:
                        pass
                    self.assertEqual([rest(console.memory), console.said], [before, said])
                self.assertTrue(is_sound(console.memory))
                self.assertEqual(console.rest(), rest_text(console.book, console.memory))
                kept += read_register(console.memory, "status") == 0
        self.assertGreater(kept, 100)


if __name__ == "__main__":
    unittest.main()
