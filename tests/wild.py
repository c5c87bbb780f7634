"""Sound memories that no machine made: any code of the shape, any objects, any frames, amid any collection."""

from tests.plain_rest import NAMES
from tests.plain_shape import plain_walk

KINDS = ("closure", "pair", "box")
OP = {word: op for op, word in enumerate(
    "number taken argument self close call tail back pair first second test go plus minus times box look put say"
    .split())}


def wild_code(row):
    """Code of the shape, with bodies that are closed often, or never, and that do not use what they capture."""
    many = row.randrange(1, 5)
    kinds = [0] + [row.randrange(2) for _ in range(many - 1)]
    captured = [row.randrange(4) for _ in range(many)]
    bodies, rows = [], []
    for body in range(many):
        bodies.append((len(rows), kinds[body], captured[body]))
        WildBody(row, rows, body, kinds, captured).end(row.randrange(4))
    return tuple(bodies), tuple(rows)


class WildBody:
    def __init__(self, row, rows, body, kinds, captured):
        self.row, self.rows, self.body, self.kinds, self.captured = row, rows, body, kinds, captured

    def put(self, word, first=0, second=0):
        self.rows.append((OP[word], first, second))
        return len(self.rows) - 1

    def direct(self, at, target):
        self.rows[at] = (self.rows[at][0], target, 0)

    def leaf(self, takes=False):
        words = [] if takes else ["number"]
        words += ["taken"] * (2 * bool(self.captured[self.body]))
        if self.body:
            words += ["argument"] + ["self"] * self.kinds[self.body]
        if not words:
            return False
        word = self.row.choice(words)
        first = self.row.randrange(-2, 3) if word == "number" else 0
        self.put(word, self.row.randrange(self.captured[self.body]) if word == "taken" else first)
        return True

    def part(self, size):
        word = self.row.choice(["leaf", "close", "close", "call", "pair", "pair", "first", "second", "plus", "times",
                                "box", "look", "put", "say", "test"]) if size > 0 else "leaf"
        if word == "close":
            return self.close()
        if word == "leaf":
            return self.leaf()
        if word == "test":
            self.part(size - 1)
            test = self.put("test")
            self.part(size - 2)
            onward = self.put("go")
            self.direct(test, onward + 1)
            self.part(size - 2)
            return self.direct(onward, len(self.rows))
        for _ in range(2 if word in ("call", "pair", "plus", "times", "put") else 1):
            self.part(size - 1)
        return self.put(word)

    def close(self):
        above = [body for body in range(self.body + 1, len(self.kinds))]
        begin = len(self.rows)
        if above:
            body = self.row.choice(above)
            if all([self.leaf(True) for _ in range(self.captured[body])]):
                return self.put("close", body, self.captured[body])
            del self.rows[begin:]
        return self.put("number", 7)

    def end(self, size):
        word = self.row.choice(["call", "test", "back"])
        if word == "call":
            self.part(size)
            self.part(size)
            self.put("tail")
        elif word == "test" and size > 0:
            self.part(size - 1)
            test = self.put("test")
            self.end(size - 1)
            self.direct(test, len(self.rows))
            self.end(size - 1)
        else:
            self.part(size)
            self.put("back")


class Wild:
    def __init__(self, row):
        self.row = row
        self.code = wild_code(row)
        self.rows = plain_walk(self.code)[0]
        self.great, self.small = row.randrange(2), row.randrange(4) == 0
        self.r = dict.fromkeys(NAMES, 0)
        bodies, rows = self.code
        self.sizes = (row.choice([40, 60, 200]), row.choice([2, 5, 40]), row.choice([12, 20, 60]),
                      row.choice([60, 100, 400]), row.randrange(1, 10))
        stack = 26 + 3 * len(bodies) + 3 * len(rows)
        areas = [stack]
        for size in self.sizes[:4]:
            areas.append(areas[-1] + size)
        self.r.update(dict(zip(("stack", "remembered", "nursery", "first"), areas)))
        self.r.update(bodies=len(bodies), rows=len(rows), size=self.sizes[3], pace=self.sizes[4])
        self.r["half"] = self.r["first"] + self.sizes[3] * row.randrange(2)
        self.other = 2 * self.r["first"] + self.sizes[3] - self.r["half"]
        self.m = [row.choice([0, 71, 2, 4 * row.randrange(areas[-1]) + 1]) for _ in range(areas[-1] + self.sizes[3])]
        # The objects of each area as pairs (PLACE, KIND); what is moved is in "signposts" beside.
        self.objects = {"nursery": [], "half": [], "other": []}
        self.ends = {"nursery": self.r["nursery"], "half": self.r["half"], "other": self.other}

    def area_end(self, area):
        if area == "nursery":
            return self.r["first"]
        return (self.r["half"] if area == "half" else self.other) + self.sizes[3]

    def word(self, areas):
        """A number, or the address of an object of one of the areas."""
        found = [place for area in areas for place, _ in self.objects[area]]
        if found and self.row.randrange(4):
            return 4 * self.row.choice(found) + 1
        return 4 * self.row.choice([0, 0, 1, -1, 999999999, self.row.randrange(200)])

    def make(self, area, areas, reserve=0):
        """An object at the end of an area, whose fields lead to objects of these areas that are there."""
        row = self.row
        kind = row.choice(("closure",) + KINDS)
        if kind == "closure":
            body = row.randrange(len(self.code[0]))
            fields = [4 * body + 2] + [self.word(areas) for _ in range(self.code[0][body][2])]
        else:
            fields = [self.word(areas) for _ in range(2 if kind == "pair" else 1)]
        place = self.ends[area]
        if place + 1 + len(fields) > self.area_end(area) - reserve:
            return None
        self.m[place:place + 1 + len(fields)] = [4 * (8 * len(fields) + KINDS.index(kind)) + 3] + fields
        self.ends[area] = place + 1 + len(fields)
        self.objects[area].append((place, kind))
        return place

    def signpost(self, area):
        """In the place of an object that was moved, the address of one in the half in use."""
        if not self.objects["half"]:
            return
        copy, kind = self.row.choice(self.objects["half"])
        many = 1 + self.m[copy] // 32
        place = self.ends[area]
        if place + many <= self.area_end(area):
            self.m[place] = 4 * copy + 1
            self.ends[area] = place + many
            self.objects[area].append((place, kind))

    def heap(self):
        row = self.row
        for _ in range(row.randrange(2, 9)):
            self.make("half", ["half"], self.sizes[3] // 2)
        scan = self.ends["half"]
        if self.great:
            for _ in range(row.randrange(8)):
                self.signpost("other") if row.randrange(3) == 0 else self.make("other", ["other"], self.sizes[3] // 2)
            for _ in range(row.randrange(4)):
                self.make("half", ["half", "other"], self.sizes[3] // 2)
        look = self.ends["half"]
        for _ in range(row.randrange(8)):
            if self.small and row.randrange(3) == 0:
                self.signpost("nursery")
            else:
                self.make("nursery", ["nursery", "half"], self.sizes[2] // 4)
        if self.small:
            for _ in range(row.randrange(4)):
                self.make("half", ["half", "nursery", "other"] if self.great else ["half", "nursery"],
                          self.sizes[3] // 2)
        self.r["scan"], self.r["look"] = (scan, look) if self.great else (row.randrange(999), look)
        boxes = [place for place, kind in self.objects["half"] if kind == "box"]
        remembered = [row.choice(boxes) for _ in range(row.randrange(self.sizes[1] + 1)) if boxes]
        self.r["many"] = len(remembered)
        self.r["kept"] = row.randrange(len(remembered) + 1) if self.small else row.randrange(9)
        for at, box in enumerate(remembered):
            self.m[self.r["remembered"] + at] = 4 * box + 1
            if at >= self.r["kept"] or not self.small:
                self.m[box + 1] = self.word(["nursery", "half"])

    def frames(self):
        """Frames from the bottom one on; None if there is no closure."""
        row, stack = self.row, self.r["stack"]
        low = stack + row.randrange(9) if self.great else None
        step = stack + row.randrange(9) if self.small else stack
        at, marks = stack, (0, 0)
        deep = row.choice([1, 1, 2, 3])
        for level in range(deep):
            areas = ["half"] + ["nursery"] * (at + 2 >= step) + ["other"] * (low is not None and at + 2 >= low)
            closures = [place for area in areas for place, kind in self.objects[area] if kind == "closure"]
            if not closures:
                return False
            closure = row.choice(closures)
            copy = self.m[closure] // 4 if self.m[closure] % 4 == 1 else closure
            body = self.m[copy + 1] // 4
            rows = [(k, many) for k, (number, many) in enumerate(self.rows) if number == body]
            if level < deep - 1:
                rows = [(k, many - 1) for k, many in rows if many and self.code[1][k - 1][0] == OP["call"]]
            if not rows:
                return False
            goes_on, many = row.choice(rows)
            if at + 4 + many > self.r["remembered"]:
                return False
            self.m[at:at + 3] = [4 * marks[0] + 2, 4 * marks[1] + 2, 4 * closure + 1]
            for place in range(at + 3, at + 4 + many):
                areas = ["half"] + ["nursery"] * (place >= step) + ["other"] * (low is not None and place >= low)
                self.m[place] = self.word(areas)
            marks = (goes_on, at + 2)
            at = at + 4 + many
        self.r["row"], self.r["base"], self.r["top"] = marks[0], marks[1], at
        self.r["low"] = low if low is not None else row.randrange(99)
        self.r["step"] = step
        return (low is None or low <= at) and step <= at

    def memory(self):
        """The memory, None if it came to nothing."""
        self.heap()
        if not self.frames():
            return None
        r, row = self.r, self.row
        r["young"], r["old"] = self.ends["nursery"], self.ends["half"]
        r["great"], r["small"] = int(self.great), int(self.small)
        if self.great:
            r["edge"], r["owed"] = self.ends["other"], row.randrange(self.sizes[4] + 1)
            r["left"] = sum(1 + self.m[place] // 32 for place, _ in self.objects["other"] if self.m[place] % 4 == 3)
        for place, name in enumerate(NAMES):
            self.m[place] = 4 * r[name] + 2
        at = 26
        for body in self.code[0]:
            self.m[at:at + 3] = [4 * number + 2 for number in body]
            at += 3
        for op, a, b in self.code[1]:
            self.m[at:at + 3] = [4 * op + 2, 4 * a + (0 if op == 0 else 2), 4 * b + 2]
            at += 3
        return tuple(self.m)


def wild_memory(row):
    """A memory of which nearly all are sound; None if it came to nothing."""
    return Wild(row).memory()
