"""The boxes of a program in the order in which they are met."""

from formstead.leading import exchanged
from formstead.patterns import ats_in
from formstead.words import core_words


def met_boxes(program):
    """The numbers of the boxes in the order in which they are met."""
    words = core_words()
    boxes, term = program
    order = list(ats_in(words, term))
    met = {number: True for number in order}
    looked = 0
    while looked < len(order):
        fresh = [number for number in ats_in(words, boxes[order[looked]]) if number not in met]
        order.extend(fresh)
        met.update({number: True for number in fresh})
        looked += 1
    return tuple(order)


def tidied_program(program):
    """The program without the boxes that are not met, the others in the order in which they are met."""
    words = core_words()
    boxes, term = program
    order = met_boxes(program)
    if order == tuple(range(len(boxes))):
        return program
    numbers = {number: index for index, number in enumerate(order)}

    def lead(leaf, _):
        return ("at", numbers[leaf[1]]) if leaf[0] == "at" else leaf

    held = [exchanged(words, boxes[number], 0, lead) for number in order]
    return (tuple(held), exchanged(words, term, 0, lead))
