"""The console: a book, sizes, a device, at most one machine, and what was said."""

from formstead.arguments import check_number, check_sizes
from formstead.book import opened_source
from formstead.collector import collected
from formstead.doing import MOST_STEPS, behind_small_steps
from formstead.errors import NotNow
from formstead.forms import words_of
from formstead.imagearguments import check_cut
from formstead.lines import check_lines, read_line, told_numbers
from formstead.machine import begun
from formstead.resting import rest_in, text_of_rest
from formstead.settling import outcome_in
from formstead.slots import LEAST_WIDTH, MOST_WIDTH, held_now
from formstead.texts import read_source
from formstead.trials import Kept, Trial
from formstead.writing import blank_device, device_behind, mended_device, writes_done, writes_of_saving


class Console:
    """A console, which changes by its methods; what it keeps is replaced by each change and never changed itself."""

    def __init__(self, book, *, sizes=(60, 8, 30, 200, 3), width=2000):
        words_of(book)
        check_sizes(sizes)
        check_number(width, LEAST_WIDTH, MOST_WIDTH)
        self.forms = book
        self.now = Kept(sizes, blank_device(width), None, (), None)

    @property
    def book(self):
        """The book in whose words texts are read and told."""
        return self.forms

    @property
    def sizes(self):
        """The sizes in which machines are begun."""
        return self.now.areas

    @property
    def device(self):
        """The device on which memories are saved."""
        return self.now.cells

    @property
    def memory(self):
        """The memory of the machine; None without one."""
        return self.now.words

    @property
    def said(self):
        """All numbers that were said in steps since the last program was loaded."""
        return self.now.numbers

    @property
    def outcome(self):
        """What has come of the machine; "none" without one."""
        return told_outcome(self.now.words)

    def change(self, areas, cells, words, numbers):
        """Keeps something else from now on; what was kept is behind it, to be led back to."""
        self.now = Kept(areas, cells, words, numbers, self.now)

    def kept_with_machine(self):
        """What is kept now; raises NotNow without a machine."""
        if self.now.words is None:
            raise NotNow()
        return self.now

    def load(self, text):
        """Begins a machine for the program of a text."""
        program = opened_source(self.forms, read_source(self.forms, text))
        words = begun(program, self.now.areas)
        self.change(self.now.areas, self.now.cells, words, ())

    def step(self, steps=1):
        """Does so many small steps and tells the numbers that are said in them."""
        check_number(steps, 0, MOST_STEPS)
        now = self.kept_with_machine()
        words, told = behind_small_steps(now.words, steps)
        self.change(now.areas, now.cells, words, now.numbers + told)
        return told

    def rest(self):
        """The rest as a text."""
        return text_of_rest(words_of(self.forms), self.forms, self.kept_with_machine().words)

    def collect(self):
        """Does a whole collection and tells whether there is one."""
        now = self.kept_with_machine()
        words = collected(now.words)
        self.change(now.areas, now.cells, now.words if words is None else words, now.numbers)
        return words is not None

    def resize(self, sizes):
        """Begins a machine of other sizes for the rest."""
        check_sizes(sizes)
        now = self.kept_with_machine()
        self.change(sizes, now.cells, begun(rest_in(now.words), sizes), now.numbers)

    def save(self):
        """Saves the memory on the device, whole."""
        now = self.kept_with_machine()
        cells = device_behind(now.cells, writes_of_saving(now.cells, now.words))
        self.change(now.areas, cells, now.words, now.numbers)

    def cut(self, many, torn=None):
        """Saves the memory until the power is cut; then there is no machine."""
        now = self.kept_with_machine()
        writes = writes_of_saving(now.cells, now.words)
        check_cut(writes, many, torn)
        cells = device_behind(now.cells, writes_done(writes, many, torn))
        self.change(now.areas, cells, None, now.numbers)

    def take(self):
        """Mends the device, takes up the memory that it holds, and tells whether it holds one."""
        cells = mended_device(self.now.cells)
        found = held_now(cells)
        self.change(self.now.areas, cells, None if found is None else found[1], self.now.numbers)
        return found is not None

    def undo(self):
        """Leads back to what was ahead of the last change that was not undone yet."""
        if self.now.before is None:
            raise NotNow()
        self.now = self.now.before

    def trial(self):
        """An object for `with`, behind which the console is what it was ahead of it."""
        return Trial(self)

    def answer(self, line):
        """Does what a line says and tells the text that answers it."""
        word, told = read_line(line)
        if word == "step":
            return told_numbers(self.step(told))
        if word == "said":
            return told_numbers(self.now.numbers)
        if word == "rest":
            return self.rest()
        if word == "outcome":
            return told_outcome(self.now.words)
        if word in ("collect", "take"):
            is_done = self.collect() if word == "collect" else self.take()
            return "yes" if is_done else "no"
        self.do(word, told)
        return "done"

    def do(self, word, told):
        """Does what a line says that is answered by nothing else than that it is done."""
        if word == "load":
            self.load(told)
        elif word == "save":
            self.save()
        elif word == "cut":
            self.cut(told)
        else:
            self.undo()

    def tried(self, lines):
        """Answers lines one behind the other, behind which the console is what it was, and tells the answers."""
        check_lines(lines)
        answers = []
        with Trial(self):
            for line in lines:
                answers.append(self.answer(line))
        return tuple(answers)


def told_outcome(words):
    """What has come of the machine with this memory; "none" for None."""
    return "none" if words is None else outcome_in(words)
