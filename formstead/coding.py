"""The code of programs."""

from formstead.operations import OP_NUMBERS
from formstead.patterns import is_leaf, nodes
from formstead.words import core_words


class Body:
    """A function whose rows are to be written, or the program itself: its kind, its part, what it captures."""

    def __init__(self, kind, part, captured, binds):
        self.kind = kind
        self.part = part
        self.captured = captured
        self.binds = binds
        self.inner = None


def body_of(function):
    """The body of a function."""
    kind = 1 if function[0] == "again" else 0
    return Body(kind, function[1], captured_by(function), kind + 1)


def captured_by(function):
    """The leaves that a function captures, as they are told where it stands, each with its index."""
    found = {}
    for node, _, outward, _ in nodes(core_words(), function):
        if node[0] == "name" and node[1] >= outward:
            found.setdefault(("name", node[1] - outward), len(found))
        elif node[0] == "at":
            found.setdefault(node, len(found))
    return found


def functions_in(part):
    """The functions that stand in a part and in no function within it, from left to right."""
    found, due = [], [part]
    while due:
        node = due.pop()
        if node[0] in ("fn", "again"):
            found.append(node)
        elif not is_leaf(node):
            due.extend(node[:0:-1])
    return found


def bodies_of(program):
    """The bodies of a program, in the order of their numbers."""
    boxes, term = program
    bodies = [Body(0, term, {("at", number): number for number in range(len(boxes))}, 0)]
    for box in boxes:
        bodies.extend([body_of(function) for function in functions_in(box)])
    looked = 0
    while looked < len(bodies):
        body = bodies[looked]
        body.inner = len(bodies)
        bodies.extend([body_of(function) for function in functions_in(body.part)])
        looked += 1
    return bodies


class RowWriter:
    """The rows of bodies, written one behind the other."""

    def __init__(self):
        self.rows = []
        self.body = None
        self.inner = None

    def write_body(self, body):
        """Writes the rows of a body."""
        self.body = body
        self.inner = body.inner
        self.write_end(body.part)

    def write(self, word, first=0, second=0):
        """Writes a row and tells its number."""
        self.rows.append((OP_NUMBERS[word], first, second))
        return len(self.rows) - 1

    def direct(self, row, target):
        """Tells a row that was written where it leads."""
        self.rows[row] = (self.rows[row][0], target, 0)

    def write_part(self, term):
        """Writes the rows of a part whose value is needed."""
        if is_leaf(term):
            self.write_leaf(term)
        elif term[0] in ("fn", "again"):
            self.write_function(term)
        elif term[0] == "test":
            self.write_test(term)
        else:
            for part in term[1:]:
                self.write_part(part)
            self.write(term[0])

    def write_leaf(self, leaf):
        """Writes the row of a number, a name or a box."""
        if leaf[0] == "number":
            self.write("number", leaf[1])
        elif leaf[0] == "at":
            self.write("taken", self.body.captured[leaf])
        elif leaf[1] >= self.body.binds:
            self.write("taken", self.body.captured[("name", leaf[1] - self.body.binds)])
        else:
            self.write("argument" if leaf[1] == 0 else "self")

    def write_function(self, function):
        """Writes the rows of a function that stands in the body."""
        captured = captured_by(function)
        for leaf in captured:
            self.write_leaf(leaf)
        self.write("close", self.inner, len(captured))
        self.inner += 1

    def write_test(self, use):
        """Writes the rows of a test that is not at the end."""
        _, asked, if_zero, otherwise = use
        self.write_part(asked)
        test = self.write("test")
        self.write_part(if_zero)
        onward = self.write("go")
        self.direct(test, onward + 1)
        self.write_part(otherwise)
        self.direct(onward, len(self.rows))

    def write_end(self, term):
        """Writes the rows of a part at the end."""
        if term[0] == "call":
            self.write_part(term[1])
            self.write_part(term[2])
            self.write("tail")
        elif term[0] == "test":
            self.write_part(term[1])
            test = self.write("test")
            self.write_end(term[2])
            self.direct(test, len(self.rows))
            self.write_end(term[3])
        else:
            self.write_part(term)
            self.write("back")


def code_of_program(program):
    """The code of a program."""
    writer, told = RowWriter(), []
    for body in bodies_of(program):
        told.append((len(writer.rows), body.kind, len(body.captured)))
        writer.write_body(body)
    return (tuple(told), tuple(writer.rows))
