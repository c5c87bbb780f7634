"""The rest of a memory, read by recursion as points 26 and 45 tell it."""

from tests.helpers import is_leaf
from tests.plain_steps import plain_tidied

NAMES = ("status row base top young old half great small scan low look step kept many left owed bodies rows stack "
         "remembered nursery first size pace edge").split()
WORDS = {5: "call", 8: "pair", 9: "first", 10: "second", 13: "plus", 14: "minus", 15: "times", 16: "box", 17: "look",
         18: "put", 19: "say"}
TWO = ("call", "pair", "plus", "minus", "times", "put")


def raised(term, by, outward=0):
    if term[0] == "name":
        return ("name", term[1] + by) if term[1] >= outward else term
    if is_leaf(term):
        return term
    many = {"fn": 1, "again": 2}.get(term[0], 0)
    return (term[0],) + tuple([raised(part, by, outward + many) for part in term[1:]])


def function_of(code, number, captured):
    first, kind, _ = code[0][number]
    held = [raised(term, kind + 1) for term in captured]
    return (("fn", "again")[kind], read(code, first, [], ("name", 0), ("name", 1), held, None))


def read(code, row, stock, argument, itself, captured, stop):
    stock, rows = list(stock), code[1]
    while row != stop:
        op, a, b = rows[row]
        row += 1
        if op == 0:
            stock.append(("number", a))
        elif op == 1:
            stock.append(captured[a])
        elif op == 2:
            stock.append(argument)
        elif op == 3:
            stock.append(itself)
        elif op == 4:
            held = stock[len(stock) - b:]
            stock[len(stock) - b:] = [function_of(code, a, held)]
        elif op == 6:
            return ("call", stock[-2], stock[-1])
        elif op == 7:
            return stock[-1]
        elif op == 12:
            row = a
        elif op == 11:
            asked = stock.pop()
            end = rows[a - 1][1] if rows[a - 1][0] == 12 else None
            one = read(code, row, [], argument, itself, captured, None if end is None else a - 1)
            other = read(code, a, [], argument, itself, captured, end)
            if end is None:
                return ("test", asked, one, other)
            stock.append(("test", asked, one, other))
            row = end
        else:
            many = 2 if WORDS[op] in TWO else 1
            stock[len(stock) - many:] = [(WORDS[op], *stock[len(stock) - many:])]
    return stock[-1]


def registers(memory):
    return {name: word // 4 for name, word in zip(NAMES, memory)}


def code_in(memory):
    told = registers(memory)
    numbers = [word // 4 for word in memory[26:told["stack"]]]
    triples = [tuple(numbers[at:at + 3]) for at in range(0, len(numbers), 3)]
    return tuple(triples[:told["bodies"]]), tuple(triples[told["bodies"]:])


class Values:
    """What words mean; boxes are numbered as they come, by their places."""

    def __init__(self, memory, code):
        self.memory, self.code, self.boxes = memory, code, []

    def place(self, word):
        place = word // 4
        return self.memory[place] // 4 if self.memory[place] % 4 == 1 else place

    def value(self, word):
        if word % 4 == 0:
            return ("number", word // 4)
        place = self.place(word)
        kind, fields = self.memory[place] // 4 % 8, self.memory[place] // 32
        held = self.memory[place + 1:place + 1 + fields]
        if kind == 1:
            return ("pair", self.value(held[0]), self.value(held[1]))
        if kind == 0:
            return function_of(self.code, held[0] // 4, [self.value(word) for word in held[1:]])
        if place not in self.boxes:
            self.boxes.append(place)
        return ("at", self.boxes.index(place))


def plain_rest(memory):
    """The rest of a memory, however great."""
    told, code = registers(memory), code_in(memory)
    values = Values(memory, code)
    if told["status"] == 1:
        term = values.value(memory[told["stack"]])
    else:
        row, base, end, term = told["row"], told["base"], told["top"], None
        while True:
            stock = [values.value(word) for word in memory[base + 2:end]] + ([] if term is None else [term])
            closure = values.place(memory[base])
            held = memory[closure + 2:closure + 1 + memory[closure] // 32]
            captured = [values.value(word) for word in held]
            term = read(code, row, stock, values.value(memory[base + 1]), values.value(memory[base]), captured, None)
            if base == told["stack"] + 2:
                break
            row, base, end = memory[base - 2] // 4, memory[base - 1] // 4, base - 2
    held, looked = [], 0
    while looked < len(values.boxes):
        held.append(values.value(memory[values.boxes[looked] + 1]))
        looked += 1
    return plain_tidied((tuple(held), term))
