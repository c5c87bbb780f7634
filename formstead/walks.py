"""The walk through the rows of bodies, by which their shape is told."""

from formstead.codes import end_of_body
from formstead.operations import CAPTURING, OP_NUMBERS, TAKING, op_word, operands_of
from formstead.patterns import GREATEST_NUMBER

MAX_ARMS = 60


class Arm:
    """One of the two ways of a test, as long as it is walked."""

    def __init__(self, is_second, is_at_end, ground, limit):
        self.is_second = is_second
        self.is_at_end = is_at_end
        self.ground = ground
        self.limit = limit


class Walk:
    """The walk through one body."""

    def __init__(self, code, number):
        self.bodies, self.rows = code
        self.body_number = number
        self.first_row, self.kind, self.captured = self.bodies[number]
        self.last = end_of_body(code, number) - 1
        self.operands = 0
        self.arms = []
        self.left_ahead = {}
        self.places = []
        self.has_ended = False

    def first_break(self):
        """The first row of the body that breaks the shape; None if there is none."""
        for row in range(self.first_row, self.last + 1):
            if not self.are_arms_left(row):
                return row
            self.places.append((self.body_number, self.operands))
            if not self.is_passed(row):
                return row
        return None if self.has_ended else self.last

    def ground_here(self):
        """How many operands are beneath what is walked."""
        return self.arms[-1].ground if self.arms else 0

    def limit_here(self):
        """The row at which what is walked has to be whole."""
        return self.arms[-1].limit if self.arms else self.last

    def above(self):
        """How many operands are above the ground."""
        return self.operands - self.ground_here()

    def are_arms_left(self, row):
        """Whether all arms whose limit is this row can be left ahead of it; they are."""
        while self.arms and self.is_inner_second() and self.limit_here() == row:
            if self.above() != 1:
                return False
            self.arms.pop()
            self.left_ahead[row] = True
        return True

    def is_inner_second(self):
        """Whether the innermost arm is a second one that is not at the end."""
        return self.arms[-1].is_second and not self.arms[-1].is_at_end

    def is_passed(self, row):
        """Whether a row may stand here; it is passed."""
        op, first, second = self.rows[row]
        word = op_word(op)
        if word == "close":
            return self.is_close_passed(row, first, second)
        if second != 0:
            return False
        if word == "number":
            return self.is_put(-GREATEST_NUMBER <= first <= GREATEST_NUMBER)
        if word == "taken":
            return self.is_put(0 <= first < self.captured)
        if word == "test":
            return self.is_test_passed(row, first)
        if word == "go":
            return self.is_go_passed(row, first)
        return first == 0 and self.is_bare_row_passed(row, word)

    def is_bare_row_passed(self, row, word):
        """Whether a row of which nothing but its word is told may stand here; it is passed."""
        if word == "argument":
            return self.is_put(self.body_number > 0)
        if word == "self":
            return self.is_put(self.body_number > 0 and self.kind == 1)
        if word in ("back", "tail"):
            return self.is_end_passed(row, 2 if word == "tail" else 1)
        if word not in TAKING or self.above() < operands_of(word):
            return False
        self.operands += 1 - operands_of(word)
        return True

    def is_put(self, is_right):
        """Whether a row that only puts an operand is right; the operand is put."""
        self.operands += 1
        return is_right

    def is_close_passed(self, row, number, many):
        """Whether a close of a body with so many captured things may stand here; it is passed."""
        if not self.body_number < number < len(self.bodies) or self.bodies[number][2] != many or self.above() < many:
            return False
        if not all([op_word(self.rows[ahead][0]) in CAPTURING for ahead in range(row - many, row)]):
            return False
        if any([ahead in self.left_ahead for ahead in range(row - many + 1, row + 1)]):
            return False
        self.operands += 1 - many
        return True

    def is_test_passed(self, row, other):
        """Whether a test that goes on at another row if not at the next one may stand here; it is passed."""
        if self.above() < 1 or len(self.arms) >= MAX_ARMS or not row + 1 < other <= self.last:
            return False
        self.operands -= 1
        op, onward, _ = self.rows[other - 1]
        if op == OP_NUMBERS["go"]:
            is_right = other - 1 > row + 1 and other < onward <= self.limit_here()
            self.arms.append(Arm(False, False, self.operands, other - 1))
            return is_right
        is_right = self.are_all_at_end() and self.operands == 0 and other <= self.limit_here()
        self.arms.append(Arm(False, True, 0, other - 1))
        return is_right

    def is_go_passed(self, row, onward):
        """Whether a go may stand here; it is passed."""
        if not self.arms or self.arms[-1].is_second or self.arms[-1].is_at_end:
            return False
        if self.limit_here() != row or self.above() != 1:
            return False
        self.operands -= 1
        first = self.arms.pop()
        self.arms.append(Arm(True, False, first.ground, onward))
        return True

    def is_end_passed(self, row, many):
        """Whether a back or a tail with so many operands may stand here; it is passed."""
        if not self.are_all_at_end() or self.limit_here() != row or self.operands != many:
            return False
        self.operands = 0
        while self.arms and self.arms[-1].is_second:
            self.arms.pop()
        if not self.arms:
            self.has_ended = True
            return True
        self.arms.pop()
        self.arms.append(Arm(True, True, 0, self.limit_here()))
        return True

    def are_all_at_end(self):
        """Whether each arm is one at the end."""
        return all([arm.is_at_end for arm in self.arms])


def walked(code):
    """The places of the rows ahead of the first one that breaks the shape, and this row's number or None."""
    places = []
    for number in range(len(code[0])):
        walk = Walk(code, number)
        broken = walk.first_break()
        places.extend(walk.places)
        if broken is not None:
            return (places, broken)
    return (places, None)


def first_break_in(code):
    """The first row that breaks the shape; None if there is none."""
    _, broken = walked(code)
    return broken
