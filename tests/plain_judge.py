"""A second judge of memories, told as points 42 and 43 tell it: for each rule all wrong places, of which the least is
told; only the frames settle their place themselves."""

import math

from tests.plain_machine import Machine
from tests.plain_rest import NAMES
from tests.plain_shape import plain_walk

SORTS = ("number", "address", "mark", "header")


def is_plain_word(value):
    if not isinstance(value, int) or isinstance(value, bool):
        return False
    number, sort = value // 4, SORTS[value % 4]
    if sort == "number":
        return -999999999 <= number <= 999999999
    if sort != "header":
        return 0 <= number <= 999999999
    fields, kind = divmod(number, 8)
    return kind == 0 and 1 <= fields <= 999999999 or (kind, fields) in ((1, 2), (2, 1))


class Judged:
    def __init__(self, memory):
        self.m = memory
        self.objects = {}
        self.rows = ()

    def sort(self, place):
        return SORTS[self.m[place] % 4]

    def number(self, place):
        return self.m[place] // 4

    def other(self):
        return self.r["first"] if self.r["half"] != self.r["first"] else self.r["first"] + self.r["size"]

    def moved(self, place):
        return self.sort(place) == "address"

    def copy(self, place):
        return self.number(place) if self.moved(place) else place

    def size(self, place):
        return self.m[self.copy(place)] // 32

    def kind(self, place):
        return ("closure", "pair", "box")[self.m[self.copy(place)] // 4 % 8]

    def where(self, place):
        """"nursery", "half" or "other" for the place of an object that was met, else None."""
        return self.objects.get(self.number(place)) if self.sort(place) == "address" else None

    # The rules.

    def rule_0(self):
        return [place for place, word in enumerate(self.m) if not is_plain_word(word)]

    def rule_1(self):
        self.r = {name: word // 4 for name, word in zip(NAMES, self.m)}
        return [place for place in range(26) if self.sort(place) != "mark"]

    def rule_2(self):
        r, wrong = self.r, []
        wrong += [17] * (r["bodies"] == 0) + [18] * (r["rows"] == 0)
        wrong += [19] * (r["stack"] != 26 + 3 * (r["bodies"] + r["rows"]))
        for place, many, least, most in ((20, r["remembered"] - r["stack"], 20, 200),
                                         (21, r["nursery"] - r["remembered"], 1, 40),
                                         (22, r["first"] - r["nursery"], 12, 60),
                                         (23, r["size"], 20, 400), (24, r["pace"], 1, 9)):
            wrong += [place] * (many < least or many > most)
        return wrong + [23] * (r["first"] + r["size"] + r["size"] != len(self.m))

    def rule_3(self):
        wrong = []
        rows = 26 + 3 * self.r["bodies"]
        for place in range(26, self.r["stack"]):
            wanted = "mark"
            if place >= rows and (place - rows) % 3 == 1 and self.m[place - 1] == 2:
                wanted = "number"
            if self.sort(place) != wanted:
                wrong.append(place)
        return wrong

    def rule_4(self):
        wrong, firsts = [], []
        for body in range(self.r["bodies"]):
            at = 26 + 3 * body
            first, kind, captured = [self.number(place) for place in (at, at + 1, at + 2)]
            if body == 0:
                wrong += [at] * (first != 0) + [at + 1] * (kind != 0)
            else:
                wrong += [at] * (first <= firsts[-1] or first >= self.r["rows"]) + [at + 1] * (kind not in (0, 1))
            wrong += [at + 2] * (captured > 1500)
            firsts.append(first)
        return wrong

    def rule_5(self):
        numbers = [self.number(place) for place in range(26, self.r["stack"])]
        triples = [tuple(numbers[at:at + 3]) for at in range(0, len(numbers), 3)]
        bodies = self.r["bodies"]
        self.code = (tuple(triples[:bodies]), tuple(triples[bodies:]))
        self.rows, broken = plain_walk(self.code)
        return [] if broken is None else [26 + 3 * bodies + 3 * broken]

    def rule_6(self):
        r, wrong = self.r, []

        def within(name, least, most):
            if not least <= r[name] <= most:
                wrong.append(NAMES.index(name))

        within("status", 0, 4)
        within("row", 0, r["rows"] - 1)
        if not (r["status"] == 1 and r["base"] == 0):
            within("base", r["stack"], r["top"])
        within("top", r["stack"], r["remembered"])
        within("young", r["nursery"], r["first"])
        within("old", r["half"], r["half"] + r["size"])
        if r["half"] not in (r["first"], r["first"] + r["size"]):
            wrong.append(6)
        within("great", 0, 1)
        within("small", 0, 1)
        if r["great"] == 1:
            within("scan", r["half"], r["old"])
            within("low", r["stack"], r["top"])
        if r["small"] == 1:
            within("look", r["half"], r["old"])
            within("step", r["stack"], r["top"])
            within("kept", 0, r["many"])
        within("many", 0, r["nursery"] - r["remembered"])
        within("left", 0, r["size"] * (r["great"] == 1))
        within("owed", 0, r["pace"] * (r["great"] == 1))
        if r["great"] == 1:
            within("edge", self.other(), self.other() + r["size"])
        else:
            within("edge", 0, 0)
        return wrong

    def meet(self, area, begin, end, signposts):
        at, found = begin, {}
        while at < end:
            header = self.m[at]
            if signposts and self.sort(at) == "address" and self.objects.get(self.number(at)) == "half":
                header = self.m[self.number(at)]
            if header % 4 != 3 or at + header // 32 >= end:
                return [at]
            found[at] = area
            at += header // 32 + 1
        self.objects.update(found)
        return []

    def rule_7(self):
        return self.meet("half", self.r["half"], self.r["old"], False)

    def rule_8(self):
        wrong = self.meet("nursery", self.r["nursery"], self.r["young"], self.r["small"] == 1)
        if self.r["great"] == 1:
            wrong += self.meet("other", self.other(), self.r["edge"], True)
        return wrong

    def rule_9(self):
        begin = self.r["remembered"]
        return [place for place in range(begin, begin + self.r["many"])
                if self.where(place) != "half" or self.kind(self.number(place)) != "box"]

    def rule_10(self):
        r, wrong = self.r, []
        begin, end = r["remembered"] + r["kept"] * r["small"], r["remembered"] + r["many"]
        boxes = [word // 4 for word in self.m[begin:end]]
        for place, area in self.objects.items():
            if self.moved(place):
                continue
            for field in range(place + 1, place + 1 + self.size(place)):
                if self.kind(place) == "closure" and field == place + 1:
                    body = self.number(field)
                    if self.sort(field) != "mark" or body >= r["bodies"]:
                        wrong.append(field)
                    elif self.code[0][body][2] != self.size(place) - 1:
                        wrong.append(field)
                    continue
                if self.sort(field) == "number":
                    continue
                lies = self.where(field)
                right = {
                    ("nursery", "nursery"): True, ("nursery", "half"): True, ("half", "half"): True,
                    ("half", "nursery"): place in boxes or r["small"] == 1 and field >= r["look"],
                    ("half", "other"): r["great"] == 1 and field >= r["scan"],
                    ("other", "other"): True,
                }
                if not right.get((area, lies), False):
                    wrong.append(field)
        return wrong

    def rule_11(self):
        r, wrong = self.r, []
        for place in range(r["stack"], r["top"]):
            lies = self.where(place)
            right = {
                "half": True, "nursery": r["small"] == 0 or place >= r["step"],
                "other": r["great"] == 1 and place >= r["low"],
            }
            if self.sort(place) not in ("mark", "number") and not right.get(lies, False):
                wrong.append(place)
        return wrong

    def rule_12(self):
        r = self.r
        if r["status"] == 1:
            rows = [(1, r["row"] == 0), (2, r["base"] == 0), (3, r["top"] == r["stack"] + 1),
                    (r["stack"], self.sort(r["stack"]) != "mark")]
            return [place for place, right in rows if not right][:1]
        row, base, end, told_row, told_base, caller = r["row"], r["base"], r["top"], 1, 2, 0
        while True:
            wrong = self.frame(row, base, end, told_row, told_base, caller)
            if wrong or base == r["stack"] + 2:
                return wrong[:1]
            told_row, told_base = base - 2, base - 1
            row, base, end, caller = self.number(base - 2), self.number(base - 1), base - 2, 1

    def frame(self, row, base, end, told_row, told_base, caller):
        stack = self.r["stack"]
        if base < stack + 2 or base > end - 2:
            return [told_base]
        if self.where(base) is None or self.kind(self.number(base)) != "closure":
            return [base]
        body = self.number(self.copy(self.number(base)) + 1)
        places = dict(enumerate(self.rows))
        if places.get(row) != (body, end - base - 2 + caller) or caller and self.code[1][row - 1][0] != 5:
            return [told_row]
        wrong = [place for place in range(base + 1, end) if self.sort(place) == "mark"]
        for place in (base - 2, base - 1):
            if self.sort(place) != "mark" or base == stack + 2 and self.number(place) != 0:
                wrong.append(place)
        return wrong

    def unmoved(self, area):
        return sum([1 + self.size(place) for place, lies in self.objects.items()
                    if lies == area and not self.moved(place)])

    def rule_13(self):
        r = self.r
        wrong = [15] * (r["left"] != self.unmoved("other"))
        room = r["half"] + r["size"] - r["old"] - r["left"]
        return wrong + [5] * (room < 0 or r["small"] == 1 and room < self.unmoved("nursery"))

    def rule_14(self):
        heights = {}

        def height(place):
            """How long the longest way is; without end if it comes back to where it was."""
            place = self.copy(place)
            if place not in heights:
                heights[place] = math.inf
                fields = range(place + 1, place + 1 + self.size(place)) if self.kind(place) != "box" else ()
                ways = [height(self.number(field)) for field in fields if self.sort(field) == "address"]
                heights[place] = 1 + max(ways, default=0)
            return heights[place]

        # What was told without end amid its own way is told so, too, of all that lead there.
        return [place for place in self.objects if not self.moved(place) and height(place) == math.inf]

    def rule_15(self):
        if self.r["status"] not in (2, 3, 4):
            return []
        machine = Machine(self.m)
        machine.status = 0
        machine.small_machine_step()
        return [] if tuple(machine.m) == self.m else [0]


def plain_first_wrong(value):
    if not isinstance(value, tuple) or len(value) < 26:
        return (0, None)
    judged = Judged(value)
    for rule in range(16):
        wrong = getattr(judged, f"rule_{rule}")()
        if wrong:
            return (rule, wrong[0] if rule == 12 else min(wrong))
    return None
