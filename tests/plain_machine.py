"""A second machine and a second collector, told as points 31 to 40 tell them, over a list of words."""

from tests.plain_rest import NAMES

OPS = ("number taken argument self close call tail back pair first second test go plus minus times box look put "
       "say").split()
MOST = 999999999


class Machine:
    """A memory; a register is read and written as an attribute of its name."""

    def __init__(self, memory):
        object.__setattr__(self, "m", list(memory))

    def __getattr__(self, name):
        return self.m[NAMES.index(name)] // 4

    def __setattr__(self, name, number):
        self.m[NAMES.index(name)] = 4 * number + 2

    def other(self):
        return self.first + self.size if self.half == self.first else self.first

    def in_nursery(self, word):
        return word % 4 == 1 and self.nursery <= word // 4 < self.first

    def in_other(self, word):
        return word % 4 == 1 and self.other() <= word // 4 < self.other() + self.size

    def room(self):
        return self.half + self.size - self.old - self.left

    # Moving.

    def move(self, word):
        """The address of the copy of what lies where an address leads."""
        at = word // 4
        if self.m[at] % 4 == 1:
            return self.m[at]
        many = self.m[at] // 32 + 1
        for k in range(many):
            self.m[self.old + k] = self.m[at + k]
        copy = 4 * self.old + 1
        self.m[at] = copy
        self.old += many
        if self.in_other(word):
            self.left -= many
        return copy

    def anew(self, at, lies):
        if lies(self.m[at]):
            word = self.move(self.m[at])
            self.m[at] = word

    def fetch(self, word):
        return self.move(word) if self.great == 1 and self.in_other(word) else word

    # Collections.

    def begin_small(self):
        self.small, self.look, self.step, self.kept = 1, self.old, self.stack, 0

    def begin_great(self):
        self.great, self.edge, self.left = 1, self.old, self.old - self.half
        half = self.other()
        self.half = half
        self.old = self.scan = half
        self.low, self.owed = self.stack, 0

    def small_step(self):
        if self.step < self.top:
            self.anew(self.step, self.in_nursery)
            self.step += 1
        elif self.kept < self.many:
            self.anew(self.m[self.remembered + self.kept] // 4 + 1, self.in_nursery)
            self.kept += 1
        elif self.look < self.old:
            self.anew(self.look, self.in_nursery)
            self.look += 1
        else:
            self.young, self.many, self.small = self.nursery, 0, 0
            if self.great == 0 and self.room() < 2 * (self.first - self.nursery):
                self.begin_great()

    def great_step(self):
        if self.low < self.top:
            self.anew(self.low, self.in_other)
            self.low += 1
        elif self.scan < self.old:
            self.anew(self.scan, self.in_other)
            self.scan += 1
        else:
            self.great = self.left = self.edge = self.owed = 0

    def collect(self):
        """Whether there is a whole collection."""
        while self.small:
            self.small_step()
        while self.great:
            self.great_step()
        if self.room() < self.young - self.nursery:
            return False
        self.begin_small()
        while self.small:
            self.small_step()
        if not self.great:
            self.begin_great()
        while self.great:
            self.great_step()
        return True

    # Small steps.

    def small_machine_step(self):
        """Does a small step; tells what it said."""
        if self.status:
            return ()
        if self.small:
            self.small_step()
            return ()
        if self.great and self.owed > 0:
            self.owed -= 1
            self.great_step()
            return ()
        at = 26 + 3 * self.bodies + 3 * self.row
        row = [word // 4 for word in self.m[at:at + 3]]
        fault = self.fault(OPS[row[0]])
        if fault:
            self.status = fault
            return ()
        return self.row_or_what_comes_first(row)

    def kind(self, word):
        if word % 4 == 0:
            return "number"
        header = self.m[word // 4]
        if header % 4 == 1:
            header = self.m[header // 4]
        return ("closure", "pair", "box")[header // 4 % 8]

    def fault(self, op):
        last, ahead = self.m[self.top - 1], self.m[self.top - 2]
        alone = {"first": "pair", "second": "pair", "look": "box", "test": "number", "say": "number"}
        if op in alone:
            return 2 * (self.kind(last) != alone[op])
        if op in ("call", "tail"):
            return 2 * (self.kind(ahead) != "closure")
        if op == "put":
            return 2 * (self.kind(ahead) != "box")
        if op in ("plus", "minus", "times"):
            if self.kind(ahead) != "number" or self.kind(last) != "number":
                return 2
            return 3 * (abs(self.result(op, ahead // 4, last // 4)) > MOST)
        return 0

    def result(self, op, one, other):
        return {"plus": one + other, "minus": one - other, "times": one * other}[op]

    def row_or_what_comes_first(self, row):
        op, _, c = OPS[row[0]], row[1], row[2]
        pushes = op in ("number", "taken", "argument", "self") or op == "close" and c == 0
        if self.remembered - self.top < {True: 1, False: 0}[pushes] + 2 * (op == "call"):
            self.status = 4
            return ()
        wants = {"close": 2 + c, "pair": 3, "box": 2}.get(op, 0)
        if wants > self.first - self.nursery:
            self.status = 4
            return ()
        lacks = self.first - self.young < wants
        if op == "put":
            box, value = self.m[self.top - 2:self.top]
            full = self.many == self.nursery - self.remembered
            lacks = full and self.in_nursery(value) and not self.in_nursery(box)
        if lacks:
            if self.room() >= self.young - self.nursery:
                self.begin_small()
            elif self.great:
                self.great_step()
            else:
                self.status = 4
            return ()
        said = self.do(op, *row[1:])
        if self.great:
            self.owed = self.pace
            if self.low > self.top:
                self.low = self.top
        return said

    def pop(self, many):
        taken = self.m[self.top - many:self.top]
        self.top -= many
        return [self.fetch(word) for word in taken]

    def push(self, word):
        self.m[self.top] = word
        self.top += 1

    def make(self, kind, fields):
        address = 4 * self.young + 1
        for word in [4 * (8 * len(fields) + kind) + 3] + fields:
            self.m[self.young] = word
            self.young += 1
        self.push(address)

    def do(self, op, a, b):
        said, onward = (), self.row + 1
        if op == "number":
            self.push(4 * a)
        elif op == "argument":
            self.push(self.fetch(self.m[self.base + 1]))
        elif op == "self":
            self.push(self.fetch(self.m[self.base]))
        elif op == "taken":
            closure = self.fetch(self.m[self.base]) // 4
            self.push(self.fetch(self.m[closure + 2 + a]))
        elif op == "close":
            self.make(0, [4 * a + 2] + self.pop(b))
        elif op == "pair":
            self.make(1, self.pop(2))
        elif op == "box":
            self.make(2, self.pop(1))
        elif op in ("first", "second", "look"):
            at = self.pop(1)[0] // 4
            self.push(self.fetch(self.m[at + 1 + (op == "second")]))
        elif op in ("plus", "minus", "times"):
            one, other = self.pop(2)
            self.push(4 * self.result(op, one // 4, other // 4))
        elif op == "say":
            word, = self.pop(1)
            said = (word // 4,)
            self.push(word)
        elif op == "test":
            if self.pop(1) != [0]:
                onward = a
        elif op == "go":
            onward = a
        elif op == "put":
            box, value = self.pop(2)
            self.m[box // 4 + 1] = value
            self.push(value)
            if self.in_nursery(value) and not self.in_nursery(box):
                self.m[self.remembered + self.many] = box
                self.many += 1
        elif op == "back":
            value, = self.pop(1)
            if self.base == self.stack + 2:
                self.m[self.stack], self.top = value, self.stack + 1
                self.status, onward, self.base = 1, 0, 0
            else:
                frame = self.base - 2
                onward, self.base = self.m[frame] // 4, self.m[frame + 1] // 4
                self.m[frame], self.top = value, frame + 1
        else:
            onward = self.enter(op)
        self.row = onward
        return said

    def enter(self, op):
        closure, argument = self.pop(2)
        if op == "call":
            self.m[self.top] = 4 * (self.row + 1) + 2
            self.m[self.top + 1] = 4 * self.base + 2
            self.base = self.top + 2
        self.m[self.base], self.m[self.base + 1] = closure, argument
        self.top = self.base + 2
        return self.m[26 + 3 * (self.m[closure // 4 + 1] // 4)] // 4


def after(memory, step, *more):
    """The memory behind a step of the second machine, told by its name."""
    machine = Machine(memory)
    getattr(Machine, step)(machine, *more)
    return tuple(machine.m)
