"""What the names in a text of the right shape mean: the fourth check."""

from formstead.errors import InvalidText


class Scope:
    """The names that are seen where a reader stands who goes through a text from left to right."""

    def __init__(self, boxes):
        self.boxes = boxes
        self.bound = []
        self.fresh = 0
        self.around = []

    def bind(self, name):
        """Passes a name that the coming part binds."""
        self.bound.append(name)
        self.fresh += 1

    def begin(self):
        """Goes into a part in brackets."""
        self.around.append(self.fresh)
        self.fresh = 0

    def end(self):
        """Comes out of a part in brackets, behind which what it binds is seen no more."""
        self.fresh = self.around.pop()
        self.end_leaf()

    def end_leaf(self):
        """Comes behind a part without brackets."""
        del self.bound[len(self.bound) - self.fresh:]
        self.fresh = 0

    def meaning(self, name):
        """The leaf that a name stands for here; None if it is not seen."""
        for k, other in enumerate(reversed(self.bound)):
            if other == name:
                return ("name", k)
        if name in self.boxes:
            return ("at", self.boxes[name])
        return None


def box_numbers(rows):
    """The boxes' names with the boxes' numbers, of like names that of the first one."""
    numbers, many = {}, 0
    for role, _, token in rows:
        if role == "box":
            numbers.setdefault(token, many)
            many += 1
    return numbers


def items_of(rows):
    """The rows as pairs (ROLE, TOKEN), and ("leaf", LEAF) for a name or a numeral that stands for a part.

    Raises InvalidText for the first name that is not seen or that two boxes have.
    """
    scope = Scope(box_numbers(rows))
    items, boxes = [], 0
    for role, place, token in rows:
        leaf = leaf_of(scope, role, token)
        if role == "named" and leaf is None or role == "box" and scope.boxes[token] != boxes:
            raise InvalidText(place)
        boxes += 1 if role == "box" else 0
        pass_by(scope, role, token)
        items.append((role, token) if leaf is None else ("leaf", leaf))
    return items


def leaf_of(scope, role, token):
    """The leaf that a row stands for; None for what is none, and for a name that is not seen.

    A name that is lent to a hole is told as the name that it means.
    """
    if role == "number":
        return ("number", int(token))
    return scope.meaning(token) if role in ("named", "lent") else None


def pass_by(scope, role, token):
    """Leads a reader's scope behind a row."""
    if role == "bound":
        scope.bind(token)
    elif role == "open":
        scope.begin()
    elif role == "close":
        scope.end()
    elif role in ("named", "number"):
        scope.end_leaf()
