"""The memory of a machine that begins."""

from formstead.coding import bodies_of, code_of_program
from formstead.layout import laid_out_words, number_at
from formstead.stores import Store
from formstead.wordsorts import word_of_address, word_of_header, word_of_mark, word_of_number


class ObjectWriter:
    """The objects of a program, written one behind the other from a place on."""

    def __init__(self, place, bodies):
        self.place = place
        self.bodies = bodies
        self.words = []
        self.used_bodies = 0

    def write_object(self, kind, fields):
        """Writes an object and tells its address."""
        begin = self.place + len(self.words)
        self.words.extend([word_of_header(kind, len(fields))] + fields)
        return word_of_address(begin)

    def write_closure(self):
        """Writes the closure of the next body, which captures boxes alone, and tells its address."""
        number = self.used_bodies
        self.used_bodies += 1
        captured = [self.box_address(leaf[1]) for leaf in self.bodies[number].captured]
        return self.write_object("closure", [word_of_mark(number)] + captured)

    def box_address(self, number):
        """The address of a box; the boxes stand first."""
        return word_of_address(self.place + 2 * number)

    def write_value(self, value):
        """Writes the objects that a value needs and tells the word that is the value."""
        if value[0] == "number":
            return word_of_number(value[1])
        if value[0] == "at":
            return self.box_address(value[1])
        if value[0] != "pair":
            return self.write_closure()
        pair = len(self.words)
        address = self.write_object("pair", [0, 0])
        for index in (1, 2):
            self.words[pair + index] = self.write_value(value[index])
        return address


def objects_of_program(program, place):
    """The words of the objects of a program from a place on, and the address of body 0's closure."""
    writer = ObjectWriter(place, bodies_of(program))
    for _ in program[0]:
        writer.write_object("box", [0])
    closure = writer.write_closure()
    for number, value in enumerate(program[0]):
        writer.words[2 * number + 1] = writer.write_value(value)
    return (writer.words, closure)


def begun_store(program, sizes):
    """The memory, to be changed, of the machine that begins; None if the objects do not fit the first half."""
    store = Store(laid_out_words(sizes, code_of_program(program)))
    half, stack = store.read("half"), store.read("stack")
    words, closure = objects_of_program(program, half)
    if len(words) > number_at(store.words, "size"):
        return None
    store.words[half:half + len(words)] = words
    store.words[stack:stack + 4] = [word_of_mark(0), word_of_mark(0), closure, word_of_number(0)]
    store.write("old", half + len(words))
    store.write("base", stack + 2)
    store.write("top", stack + 4)
    return store
