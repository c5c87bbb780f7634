"""Programs and memories that the tests of the machine share, and what has to hold of every sound memory."""

from formstead.errors import NoRoom
from formstead.machine import begun
from formstead.memory import in_use
from formstead.plain import is_program
from formstead.texts import read_source
from tests.plain_rest import registers
from tests.plain_steps import random_program

# Each makes many objects; in the second one boxes are put that are older than what is put into them.
BUSY = (
    "(call (again f x (test x 0 (call (fn y (call f (minus x 1))) (pair x (pair x x))))) 30)",
    "(boxes b 0 (call (again f x (test x (look b) (call (fn y (call f (minus x 1))) (put b (pair x (look b)))))) 20))",
    "(boxes b 0 c (pair b b) (call (again f x (test x (look b) (call (fn y (call f (minus x 1))) "
    "(put (first (look c)) (box (pair x (look b))))))) 20))",
    "(call (again f x (test x 0 (plus (say x) (call f (minus x 1))))) 12)",
    "(boxes b 7 (call (again f x (test x (say 5) (call (fn y (call (fn z (call f (minus x 1))) (put b x))) "
    "(put b (fn u (pair u x)))))) 15))",
)
SMALL_SIZES = (20, 1, 12, 20, 1)
ROOMY = (200, 40, 60, 400, 9)


def n(number):
    """The word that is a number."""
    return 4 * number


def a(place):
    """The word that is the address of a place."""
    return 4 * place + 1


def m(mark):
    """The word that is a mark."""
    return 4 * mark + 2


def with_words(memory, words):
    """The memory with other words at some places."""
    told = list(memory)
    for place, word in words.items():
        told[place] = word
    return tuple(told)


def changes(before, behind):
    """The words that were changed, by their places."""
    return {place: word for place, (old, word) in enumerate(zip(before, behind)) if old != word}


def source(text):
    return read_source((), text)


def begin(text, sizes=SMALL_SIZES):
    return begun(source(text), sizes)


def random_sizes(row):
    return (row.choice([20, 24, 30, 60, 200]), row.choice([1, 2, 5, 40]), row.choice([12, 13, 20, 40, 60]),
            row.choice([20, 30, 40, 60, 80, 400]), row.randrange(1, 10))


def random_machine(row):
    """A program and the memory of a machine that begins for it, None and None if there is no room."""
    if row.randrange(3):
        program = random_program(row, row.randrange(3, 12))
    else:
        program = source(row.choice(BUSY))
    if not is_program(program):
        return None, None
    try:
        return program, begun(program, random_sizes(row))
    except NoRoom:
        return None, None


def with_free_words_changed(row, memory):
    """The memory with other words in some of its free places."""
    words = list(memory)
    for place in range(len(memory)):
        if not in_use(memory, place) and row.randrange(3):
            words[place] = row.choice([4 * row.randrange(-9, 9), 4 * row.randrange(len(memory)) + 1, 71, 43, 35,
                                       4 * row.randrange(9) + 2])
    return tuple(words)


def free_words_are_not_read(row, memory, step):
    """Whether a step does the same whatever stands in free places."""
    other = with_free_words_changed(row, memory)
    behind, found = step(memory), step(other)
    if behind is None or found is None:
        return behind is None and found is None
    told = zip(memory, behind, other, found)
    return all(late == new or old == new and late == was for old, new, was, late in told)


def places_of_objects(memory, begin, end):
    """The places of the objects that stand without gaps, signposts among them."""
    found = []
    while begin < end:
        found.append(begin)
        header = memory[begin]
        if header % 4 == 1:
            header = memory[header // 4]
        assert header % 4 == 3, (begin, header)
        begin += 1 + header // 32
    assert begin == end
    return found


def assert_sound(memory):
    """What points 28 to 39 tell of memories, as far as registers, objects and words on the stack go."""
    told = registers(memory)
    assert [word % 4 for word in memory[:26]] == [2] * 26
    assert told["stack"] <= told["top"] <= told["remembered"] and told["nursery"] <= told["young"] <= told["first"]
    assert told["half"] <= told["old"] <= told["half"] + told["size"]
    assert told["half"] + told["size"] - told["old"] - told["left"] >= 0
    other = 2 * told["first"] + told["size"] - told["half"]
    half = places_of_objects(memory, told["half"], told["old"])
    nursery = places_of_objects(memory, told["nursery"], told["young"])
    beyond = places_of_objects(memory, other, told["edge"]) if told["great"] else []
    assert all(memory[place] % 4 == 3 for place in half)
    places = set(half) | set(nursery) | set(beyond)
    left = sum(1 + memory[place] // 32 for place in beyond if memory[place] % 4 == 3)
    assert told["left"] == left
    for place in places:
        if memory[place] % 4 == 3:
            for field in range(place + 1, place + 1 + memory[place] // 32):
                assert_field(memory, told, places, place, field)
    for place in range(told["stack"], told["top"]):
        assert memory[place] % 4 in (0, 2) or memory[place] // 4 in places
    for place in range(told["remembered"], told["remembered"] + told["many"]):
        box = memory[place] // 4
        assert memory[place] % 4 == 1 and box in half and memory[box] % 32 == 11


def assert_field(memory, told, places, place, field):
    word = memory[field]
    if memory[place] // 4 % 8 == 0 and field == place + 1:
        assert word % 4 == 2
        return
    assert word % 4 == 0 or word % 4 == 1 and word // 4 in places
    from_old = told["half"] <= place < told["half"] + told["size"]
    if from_old and word % 4 == 1 and told["nursery"] <= word // 4 < told["first"]:
        remembered = [memory[told["remembered"] + k] // 4 for k in range(told["many"])]
        if told["small"]:
            remembered = remembered[told["kept"]:]
        assert place in remembered or told["small"] and field >= told["look"]
