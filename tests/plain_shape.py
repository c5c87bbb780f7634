"""A second telling of point 27: whether bodies fit, and the first row that breaks the shape."""

CAPTURE = (1, 2, 3)
PARTS = {5: 2, 8: 2, 9: 1, 10: 1, 13: 2, 14: 2, 15: 2, 16: 1, 17: 1, 18: 2, 19: 1}


class Breaks(Exception):
    pass


def plain_fit(bodies, rows):
    if not bodies or bodies[0][0] != 0 or bodies[0][1] != 0:
        return False
    firsts = [body[0] for body in bodies]
    if any(later <= earlier for earlier, later in zip(firsts, firsts[1:])) or firsts[-1] >= len(rows):
        return False
    return all(body[1] in (0, 1) and body[2] in range(1501) for body in bodies)


def need(condition):
    if not condition:
        raise Breaks()


def plain_walk(code):
    """The places of the rows that were walked, and the row that breaks the shape, or None."""
    bodies, rows = code
    places = []
    for number, (first, kind, captured) in enumerate(bodies):
        end = bodies[number + 1][0] if number + 1 < len(bodies) else len(rows)
        walk = BodyWalk(code, number, kind, captured, end - 1)
        for row in range(first, end):
            try:
                walk.leave(row)
                places.append((number, walk.stock))
                walk.pass_row(row, *rows[row])
                need(row < end - 1 or walk.over)
            except Breaks:
                return places, row
    return places, None


class BodyWalk:
    """Arms are rows [WHICH, GROUND, LIMIT], WHICH being "one", "two", "end one" or "end two"."""

    def __init__(self, code, number, kind, captured, last):
        self.bodies, self.rows = code
        self.number, self.kind, self.captured, self.last = number, kind, captured, last
        self.stock, self.arms, self.left, self.over = 0, [], set(), False

    def arm(self):
        return self.arms[-1] if self.arms else ["none", 0, self.last]

    def above(self):
        return self.stock - self.arm()[1]

    def leave(self, row):
        while self.arm()[0] == "two" and self.arm()[2] == row:
            need(self.above() == 1)
            self.arms.pop()
            self.left.add(row)

    def pass_row(self, row, op, a, b):
        need(op in range(20))
        if op == 4:
            need(self.number < a < len(self.bodies) and self.bodies[a][2] == b and b <= self.above())
            need(b == 0 or all(self.rows[k][0] in CAPTURE for k in range(row - b, row)))
            need(b == 0 or not self.left & set(range(row - b + 1, row + 1)))
            self.stock += 1 - b
            return
        need(b == 0)
        if op in (0, 1):
            need(abs(a) <= 999999999 if op == 0 else 0 <= a < self.captured)
            self.stock += 1
        elif op == 11:
            self.test(row, a)
        elif op == 12:
            need(self.arm()[0] == "one" and self.arm()[2] == row and self.above() == 1)
            self.stock -= 1
            self.arms[-1] = ["two", self.arm()[1], a]
        else:
            need(a == 0)
            self.bare(row, op)

    def bare(self, row, op):
        if op in (2, 3):
            need(self.number > 0 and (op == 2 or self.kind == 1))
            self.stock += 1
        elif op in (6, 7):
            need(all(arm[0].startswith("end") for arm in self.arms))
            need(row == self.arm()[2] and self.stock == (2 if op == 6 else 1))
            self.stock = 0
            while self.arm()[0] == "end two":
                self.arms.pop()
            if not self.arms:
                self.over = True
            else:
                self.arms.pop()
                self.arms.append(["end two", 0, self.arm()[2]])
        else:
            need(self.above() >= PARTS[op])
            self.stock += 1 - PARTS[op]

    def test(self, row, e):
        need(self.above() >= 1 and len(self.arms) < 60 and row + 1 < e <= self.last)
        self.stock -= 1
        if self.rows[e - 1][0] == 12:
            d = self.rows[e - 1][1]
            need(e - 1 > row + 1 and e < d <= self.arm()[2])
            self.arms.append(["one", self.stock, e - 1])
        else:
            need(all(arm[0].startswith("end") for arm in self.arms) and self.stock == 0 and e <= self.arm()[2])
            self.arms.append(["end one", 0, e - 1])
