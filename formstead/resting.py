"""The rest of memories."""

from formstead.decoding import Frame, RowReader
from formstead.growing import Grower, trees_of
from formstead.layout import code_in, frames_in, number_at, object_there, place_through
from formstead.printing import names_in_print, printed
from formstead.shortening import shortest_of_program
from formstead.wordsorts import told_by

ENDED = 1


def rest_in(memory):
    """The rest of a sound memory, tidied; TooGreat is raised if it would be no program."""
    reader = RowReader(code_in(memory))
    grower = Grower(reader, memory)
    term = grower.grown(tree_of_rest(reader, memory), None, 0, 1)
    boxes = []
    while len(boxes) < len(grower.met):
        # Boxes grow in the order in which they are met, in what is held by others, too.
        place = list(grower.met)[len(boxes)]
        boxes.append(grower.grown(("word", memory[place + 1]), None, 0, 1))
    return (tuple(boxes), term)


def tree_of_rest(reader, memory):
    """The tree of the rest's term."""
    if number_at(memory, "status") == ENDED:
        return ("word", memory[number_at(memory, "stack")])
    given = []
    for base, row, end in frames_in(memory):
        argument = ("word", memory[base + 1])
        frame = Frame(argument, ("word", memory[base]), trees_of(captured_at(memory, base)))
        # What a frame gives goes to its caller, as its last operand.
        given = [reader.read_rows(row, None, trees_of(memory[base + 2:end]) + given, frame)]
    return given[0]


def captured_at(memory, base):
    """The words that the closure of a frame has captured."""
    _, fields = object_there(memory, place_through(memory, told_by(memory[base])))
    return fields[1:]


def text_of_rest(words, book, memory):
    """The print of the rest of a sound memory in the words of a book; TooGreat is raised if there is none."""
    source = shortest_of_program(words, book, rest_in(memory))
    return printed(words, source, names_in_print(words, source))
