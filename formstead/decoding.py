"""Rows read as trees.

A tree is like a core term, but a function is told as (close, BODY, CAPTURED, ..), its part not being read yet, and
what a body's rows take is told as (argument,), (self,) and (taken, INDEX).
"""

from formstead.operations import TAKING, op_word, operands_of


class Frame:
    """The trees that stand for a body's argument, for itself, and for what it captured."""

    def __init__(self, argument, itself, captured):
        self.argument = argument
        self.itself = itself
        self.captured = captured


class RowReader:
    """The rows of code read as trees, those of a body once."""

    def __init__(self, code):
        self.bodies, self.rows = code
        self.parts = {}

    def part_of_body(self, number):
        """The tree that a body's rows tell, from the first one on."""
        if number not in self.parts:
            first, _, captured = self.bodies[number]
            frame = Frame(("argument",), ("self",), [("taken", index) for index in range(captured)])
            self.parts[number] = self.read_rows(first, None, [], frame)
        return self.parts[number]

    def read_rows(self, row, stop, stock, frame):
        """What the rows tell from one on, up to that ahead of STOP, or to their end if this is None."""
        stock = list(stock)
        while row != stop:
            op, first, second = self.rows[row]
            word = op_word(op)
            if word == "back":
                return stock[-1]
            if word == "tail":
                return ("call", stock[-2], stock[-1])
            if word == "test" and not self.is_go(first - 1):
                return self.read_test(stock[-1], (row + 1, None), (first, None), frame)
            if word == "test":
                onward = self.rows[first - 1][1]
                stock.append(self.read_test(stock.pop(), (row + 1, first - 1), (first, onward), frame))
                row = onward
            elif word == "go":
                row = first
            else:
                read_row(word, first, second, stock, frame)
                row += 1
        return stock[-1]

    def is_go(self, row):
        """Whether a row is a go."""
        return op_word(self.rows[row][0]) == "go"

    def read_test(self, asked, one, other, frame):
        """The test of what was asked, with what two ranges of rows tell."""
        arms = [self.read_rows(row, stop, [], frame) for row, stop in (one, other)]
        return ("test", asked, *arms)


def read_row(word, first, second, stock, frame):
    """Puts what a row makes behind the stock, in the place of what it takes."""
    if word in TAKING:
        stock.append((word, *taken_away(stock, operands_of(word))))
    elif word == "close":
        stock.append(("close", first, *taken_away(stock, second)))
    elif word == "number":
        stock.append(("number", first))
    elif word == "taken":
        stock.append(frame.captured[first])
    else:
        stock.append(frame.argument if word == "argument" else frame.itself)


def taken_away(stock, many):
    """The last trees of the stock, which are taken away."""
    at = len(stock) - many
    taken = stock[at:]
    del stock[at:]
    return taken
