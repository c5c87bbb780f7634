"""Rows read as terms."""

from formstead.leading import led_pattern
from formstead.operations import TAKING, op_word, operands_of
from formstead.words import core_words

LEAF_SIZES = (1, 1)


class Frame:
    """What is told of a body that is read: what stands for its argument, for itself, and for what it captured."""

    def __init__(self, argument, itself, captured):
        self.argument = argument
        self.itself = itself
        self.captured = captured


class RowReader:
    """Rows read by a maker, which makes what they tell: terms, or only their sizes."""

    def __init__(self, code, maker):
        self.bodies, self.rows = code
        self.maker = maker

    def read_body(self, number, frame):
        """What the rows of a body tell."""
        return self.read_rows(self.bodies[number][0], None, [], frame)

    def read_rows(self, row, stop, stock, frame):
        """What the rows tell from one on, up to that ahead of STOP, or to their end if this is None."""
        stock = list(stock)
        while row != stop:
            op, first, second = self.rows[row]
            word = op_word(op)
            if word == "back":
                return stock[-1]
            if word == "tail":
                return self.maker.use("call", stock[-2:])
            if word == "test" and not self.is_go(first - 1):
                return self.read_test(stock[-1], (row + 1, None), (first, None), frame)
            if word == "test":
                onward = self.rows[first - 1][1]
                stock.append(self.read_test(stock.pop(), (row + 1, first - 1), (first, onward), frame))
                row = onward
            elif word == "go":
                row = first
            else:
                self.read_row(word, first, second, stock, frame)
                row += 1
        return stock[-1]

    def is_go(self, row):
        """Whether a row is a go."""
        return op_word(self.rows[row][0]) == "go"

    def read_test(self, asked, one, other, frame):
        """The test of what was asked, with what two ranges of rows tell."""
        parts = [asked]
        for row, stop in (one, other):
            parts.append(self.read_rows(row, stop, [], frame))
        return self.maker.use("test", parts)

    def read_row(self, word, first, second, stock, frame):
        """Puts what a row makes behind the stock, in the place of what it takes."""
        if word in TAKING:
            many = operands_of(word)
            parts = stock[len(stock) - many:]
            del stock[len(stock) - many:]
            stock.append(self.maker.use(word, parts))
        elif word == "close":
            captured = stock[len(stock) - second:]
            del stock[len(stock) - second:]
            stock.append(self.maker.function(self, first, captured))
        elif word == "number":
            stock.append(self.maker.number(first))
        elif word == "taken":
            stock.append(frame.captured[first])
        else:
            stock.append(frame.argument if word == "argument" else frame.itself)


class TermMaker:
    """A maker of terms."""

    def number(self, number):
        """A number."""
        return ("number", number)

    def use(self, word, parts):
        """A use of a word."""
        return (word, *parts)

    def function(self, reader, number, captured):
        """The function of a body that has captured these terms."""
        kind = reader.bodies[number][1]
        words = core_words()
        raised = [led_pattern(words, term, (), kind + 1) for term in captured]
        part = reader.read_body(number, Frame(("name", 0), ("name", 1), raised))
        return ("again" if kind == 1 else "fn", part)


class SizesMaker:
    """A maker of lengths and depths alone, where all that is captured are leaves; those of bodies are in a table."""

    def __init__(self):
        self.table = {}

    def number(self, _):
        """The sizes of a number."""
        return LEAF_SIZES

    def use(self, word, parts):
        """The sizes of a use of a word."""
        return (1 + sum([length for length, _ in parts]), 1 + max([depth for _, depth in parts]))

    def function(self, reader, number, captured):
        """The sizes of the function of a body."""
        length, depth = self.table[number]
        return (2 + reader.bodies[number][1] + length, 1 + depth)


def sizes_told(code):
    """The length and the depth of what body 0's rows tell.

    Rows close bodies with greater numbers alone, so each body's sizes are told before they are asked for.
    """
    maker = SizesMaker()
    reader = RowReader(code, maker)
    for number in reversed(range(len(code[0]))):
        frame = Frame(LEAF_SIZES, LEAF_SIZES, [LEAF_SIZES] * code[0][number][2])
        maker.table[number] = reader.read_body(number, frame)
    return maker.table[0]


def term_told(code):
    """What body 0's rows tell."""
    captured = [("at", number) for number in range(code[0][0][2])]
    return RowReader(code, TermMaker()).read_body(0, Frame(None, None, captured))
