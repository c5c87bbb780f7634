"""The rules 0 to 6 of the judge: words, registers and code.

Each function tells the least place at which its rule does not hold, None if it does; the rules ahead of it hold.
"""

from formstead.arguments import LEAST_SIZES, MOST_SIZES
from formstead.codes import MAX_CAPTURED
from formstead.layout import ALL_REGISTERS, NUMBER_OP, PLACES, code_in, number_at, place_of_body, place_of_row
from formstead.walks import walked
from formstead.wordsorts import is_mark_word, is_number_word, read_as_word, told_by, word_of_mark

LAST_STATUS = 4
ENDED = 1


def no_word(judged):
    """Rule 0, of a tuple that is long enough: each element is a word."""
    for place, word in enumerate(judged.words):
        if read_as_word(word) is None:
            return place
    return None


def no_register(judged):
    """Rule 1: the registers are marks; their numbers are told from here on."""
    for place in range(ALL_REGISTERS):
        if not is_mark_word(judged.words[place]):
            return place
    judged.told = {name: number_at(judged.words, name) for name in PLACES}
    return None


def no_size(judged):
    """Rule 2: where the areas lie."""
    told = judged.told
    ends = told["first"] + 2 * told["size"]
    return first_register_wrong([
        ("bodies", told["bodies"] > 0),
        ("rows", told["rows"] > 0),
        ("stack", told["stack"] == ALL_REGISTERS + 3 * told["bodies"] + 3 * told["rows"]),
        ("remembered", is_size(0, told["remembered"] - told["stack"])),
        ("nursery", is_size(1, told["nursery"] - told["remembered"])),
        ("first", is_size(2, told["first"] - told["nursery"])),
        ("size", is_size(3, told["size"]) and len(judged.words) == ends),
        ("pace", is_size(4, told["pace"])),
    ])


def is_size(index, number):
    """Whether one of the sizes of a memory may be this number."""
    return LEAST_SIZES[index] <= number <= MOST_SIZES[index]


def first_register_wrong(rows):
    """The place of the first register of these rows (NAME, IS_RIGHT) that is not right."""
    for name, is_right in rows:
        if not is_right:
            return PLACES[name]
    return None


def no_code_word(judged):
    """Rule 3: the sorts of the words of bodies and rows."""
    words, rows = judged.words, place_of_row(judged.words, 0)
    for place in range(ALL_REGISTERS, judged.told["stack"]):
        is_number = place >= rows and (place - rows) % 3 == 1 and words[place - 1] == word_of_mark(NUMBER_OP)
        if not (is_number_word(words[place]) if is_number else is_mark_word(words[place])):
            return place
    return None


def no_body(judged):
    """Rule 4: what the bodies tell."""
    ahead = -1
    for number in range(judged.told["bodies"]):
        place = place_of_body(number)
        first, kind, captured = [told_by(word) for word in judged.words[place:place + 3]]
        if not ahead < first < judged.told["rows"] or number == 0 and first != 0:
            return place
        if kind > 1 or number == 0 and kind != 0:
            return place + 1
        if captured > MAX_CAPTURED:
            return place + 2
        ahead = first
    return None


def no_row(judged):
    """Rule 5: the shape of the rows; their places are told from here on."""
    judged.row_places, broken = walked(code_in(judged.words))
    return None if broken is None else place_of_row(judged.words, broken)


def no_number(judged):
    """Rule 6: the numbers of the other registers."""
    told = judged.told
    is_ended, stack, top, half, old = told["status"] == ENDED, told["stack"], told["top"], told["half"], told["old"]
    return first_register_wrong([
        ("status", told["status"] <= LAST_STATUS),
        ("row", told["row"] < told["rows"]),
        ("base", stack <= told["base"] <= top or is_ended and told["base"] == 0),
        ("top", stack <= top <= told["remembered"]),
        ("young", told["nursery"] <= told["young"] <= told["first"]),
        ("old", half <= old <= half + told["size"]),
        ("half", half in (told["first"], told["first"] + told["size"])),
        ("great", told["great"] in (0, 1)),
        ("small", told["small"] in (0, 1)),
        ("scan", told["great"] == 0 or half <= told["scan"] <= old),
        ("low", told["great"] == 0 or stack <= told["low"] <= top),
        ("look", told["small"] == 0 or half <= told["look"] <= old),
        ("step", told["small"] == 0 or stack <= told["step"] <= top),
        ("kept", told["small"] == 0 or told["kept"] <= told["many"]),
        ("many", told["many"] <= told["nursery"] - told["remembered"]),
    ] + rows_of_great(told))


def rows_of_great(told):
    """The registers that are 0 but while a great collection goes on, as rows (NAME, IS_RIGHT)."""
    if told["great"] == 0:
        return [(name, told[name] == 0) for name in ("left", "owed", "edge")]
    other = told["first"] + told["size"] if told["half"] == told["first"] else told["first"]
    return [
        ("left", told["left"] <= told["size"]),
        ("owed", told["owed"] <= told["pace"]),
        ("edge", other <= told["edge"] <= other + told["size"]),
    ]
