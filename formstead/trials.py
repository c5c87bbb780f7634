"""What a console keeps, and trials, behind which it is what it was."""


class Kept:
    """What a console keeps at one time, and what it kept ahead of the change that led here.

    AREAS are the sizes of its machines, CELLS its device, WORDS the memory of its machine or None, NUMBERS what was
    said.
    """

    def __init__(self, areas, cells, words, numbers, before):
        self.areas = areas
        self.cells = cells
        self.words = words
        self.numbers = numbers
        self.before = before


class Entry:
    """What a console kept when a trial was entered, and the entry of the same trial around this one."""

    def __init__(self, kept, around):
        self.kept = kept
        self.around = around


class Trial:
    """What may stand behind `with`; entered again, it leads back behind each of its ends to what was ahead of it."""

    def __init__(self, console):
        self.console = console
        self.entry = None

    def __enter__(self):
        self.entry = Entry(self.console.now, self.entry)
        return self.console

    def __exit__(self, kind, value, trace):
        console = self.console
        console.now = self.entry.kept
        self.entry = self.entry.around
