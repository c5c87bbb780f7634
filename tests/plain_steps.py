"""A second telling of the plain meaning: by recursion, and of boxes by the signs in which terms are shown."""

import ast
import re

from tests.helpers import is_leaf

AT = re.compile(r"\('at', (\d+)\)")


def is_plain_value(term):
    if term[0] == "pair":
        return is_plain_value(term[1]) and is_plain_value(term[2])
    return term[0] in ("number", "at", "fn", "again")


def plain_met(program):
    order = []
    due = [program[1]]
    while due:
        for number in AT.findall(repr(due.pop(0))):
            if int(number) not in order:
                order.append(int(number))
                due.append(program[0][int(number)])
    return tuple(order)


def plain_tidied(program):
    order = plain_met(program)

    def led(term):
        return ast.literal_eval(AT.sub(lambda found: f"('at', {order.index(int(found.group(1)))})", repr(term)))

    return (tuple([led(program[0][number]) for number in order]), led(program[1]))


def filled(term, values, outward=0):
    """The term with closed values for its first free names."""
    if term[0] == "name":
        return values[term[1] - outward] if term[1] >= outward else term
    if is_leaf(term):
        return term
    many = {"fn": 1, "again": 2}.get(term[0], 0)
    return (term[0],) + tuple([filled(part, values, outward + many) for part in term[1:]])


class Fault(Exception):
    pass


def want(term, *sorts):
    if term[0] not in sorts:
        raise Fault("kind")


def plain_step(boxes, term):
    """(place, boxes, term, said) behind one step; None for a value; raises Fault."""
    if is_plain_value(term):
        return None
    word, *parts = term
    for at, part in enumerate(parts[:1] if word == "test" else parts):
        found = plain_step(boxes, part)
        if found is not None:
            place, boxes, part, said = found
            return ((at,) + place, boxes, term[:1 + at] + (part,) + term[2 + at:], said)
    return ((), *reduced(boxes, word, parts))


def plain_place(boxes, term):
    """The place alone, faults or not."""
    if is_plain_value(term):
        return None
    for at, part in enumerate(term[1:2] if term[0] == "test" else term[1:]):
        if not is_plain_value(part):
            return (at,) + plain_place(boxes, part)
    return ()


def reduced(boxes, word, parts):
    if word == "call":
        want(parts[0], "fn", "again")
        return boxes, filled(parts[0][1], [parts[1], parts[0]]), ()
    if word in ("first", "second"):
        want(parts[0], "pair")
        return boxes, parts[0][1 if word == "first" else 2], ()
    if word == "test":
        want(parts[0], "number")
        return boxes, parts[2] if parts[0][1] else parts[1], ()
    if word in ("plus", "minus", "times"):
        want(parts[0], "number")
        want(parts[1], "number")
        sign = {"plus": "+", "minus": "-", "times": "*"}[word]
        number = eval(f"({parts[0][1]}) {sign} ({parts[1][1]})")
        if not -10 ** 9 < number < 10 ** 9:
            raise Fault("great")
        return boxes, ("number", number), ()
    if word == "box":
        return boxes + (parts[0],), ("at", len(boxes)), ()
    if word == "say":
        want(parts[0], "number")
        return boxes, parts[0], (parts[0][1],)
    want(parts[0], "at")
    number = parts[0][1]
    if word == "look":
        return boxes, boxes[number], ()
    return tuple([parts[1] if at == number else box for at, box in enumerate(boxes)]), parts[1], ()


def plain_next(program):
    """(outcome, program, said) as next_of tells it, however great."""
    try:
        found = plain_step(*program)
    except Fault as fault:
        return (fault.args[0], plain_tidied(program), ())
    if found is None:
        return ("end", plain_tidied(program), ())
    _, boxes, term, said = found
    return ("step", plain_tidied((boxes, term)), said)


def random_program(row, size=10):
    """A random program in which many steps go well."""
    many = row.choice([0, 1, 2, 3])
    boxes = tuple([random_value(row, row.randrange(4), many) for _ in range(many)])
    return (boxes, sensible(row, size, 0, many))


def random_value(row, size, boxes):
    kind = row.choice(["number", "number", "at", "fn", "pair"])
    if kind == "at" and boxes:
        return ("at", row.randrange(boxes))
    if kind == "fn":
        word = row.choice(["fn", "again"])
        return (word, sensible(row, size, 1 if word == "fn" else 2, boxes))
    if kind == "pair" and size > 0:
        return ("pair", random_value(row, size - 1, boxes), random_value(row, size - 1, boxes))
    return ("number", row.choice([0, 0, 1, 2, -3, 999999999, row.randrange(30, 200)]))


def sensible(row, size, outward, boxes):
    """A random core term in which parts are mostly of the sort that is wanted."""
    if size <= 0 or row.randrange(9) == 0:
        kinds = ["number"] + ["name"] * (2 if outward else 0) + ["at"] * (1 if boxes else 0)
        kind = row.choice(kinds)
        if kind == "number":
            # Numbers like those of places in memories are among them.
            return ("number", row.choice([0, 0, 1, 2, -3, 70000, row.randrange(30, 200), row.randrange(30, 200)]))
        return (kind, row.randrange(outward if kind == "name" else boxes))
    size -= row.randrange(1, 3)

    def more(extra=0):
        return sensible(row, size, outward + extra, boxes)

    def of(sort):
        if row.randrange(12) == 0:
            return more()
        if sort == "function":
            word = row.choice(["fn", "fn", "again"])
            return (word, more(1 if word == "fn" else 2))
        if sort == "pair":
            return ("pair", more(), more())
        if sort == "at":
            return ("at", row.randrange(boxes)) if boxes and row.randrange(2) else ("box", more())
        if row.randrange(2):
            return ("number", row.choice([0, 0, 1, 2, 999999999]))
        return (row.choice(["plus", "minus", "times"]), of("number") if size > 2 else ("number", 3), ("number", 4))

    word = row.choice(["fn", "again", "call", "call", "call", "pair", "plus", "minus", "times", "put", "put", "first",
                       "second", "box", "box", "look", "look", "say", "test", "test"])
    if word in ("fn", "again"):
        return of("function")
    if word == "call":
        return ("call", of("function"), more())
    if word == "pair":
        return ("pair", more(), more())
    if word in ("plus", "minus", "times"):
        return (word, of("number"), of("number"))
    if word == "put":
        return ("put", of("at"), more())
    if word in ("first", "second"):
        return (word, of("pair"))
    if word == "box":
        return ("box", more())
    if word == "look":
        return ("look", of("at"))
    if word == "say":
        return ("say", of("number"))
    return ("test", of("number"), more(), more())
