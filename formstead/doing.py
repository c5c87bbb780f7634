"""Small steps of the machine done."""

from formstead.collecting import begin_small, step_great, step_small
from formstead.layout import place_of_body
from formstead.settling import is_put_remembered, next_row, settled
from formstead.steps import reckoned
from formstead.stores import Store, fetch
from formstead.wordsorts import told_by, word_of_address, word_of_header, word_of_mark, word_of_number

ENDED = 1
MOST_STEPS = 100000
STATUS_OF = {"kind": 2, "excess": 3, "room": 4}


def behind_small_steps(memory, steps):
    """The memory behind so many small steps, and the tuple of all that is said in them."""
    store, said = Store(memory), []
    for _ in range(steps):
        # In any other status nothing changes any more.
        if store.read("status") != 0:
            break
        said.extend(do_small_step(store))
    return (store.as_memory(), tuple(said))


def do_small_step(store):
    """Does one small step and tells what it said, a list of one number or of none."""
    what = settled(store)
    if what == "row":
        return do_row(store)
    if what in STATUS_OF:
        store.write("status", STATUS_OF[what])
    elif what == "small":
        step_small(store)
    elif what == "begin":
        begin_small(store)
    elif what != "none":
        if what == "owed":
            store.grow("owed", -1)
        step_great(store)
    return []


def do_row(store):
    """Does the row that comes next and tells what it said."""
    said = do_row_alone(store)
    if store.read("great") == 1:
        store.write("owed", store.read("pace"))
        store.write("low", min(store.read("low"), store.read("top")))
    return said


def do_row_alone(store):
    """Does the row that comes next, but for what it owes to the great collection."""
    word, first, second = next_row(store)
    if word in ("call", "tail", "back"):
        leave_body(store, word)
        return []
    target, said = store.read("row") + 1, []
    if word == "go":
        target = first
    elif word == "test":
        if take(store, 1)[0] != word_of_number(0):
            target = first
    else:
        said = do_plain_row(store, word, first, second)
    store.write("row", target)
    return said


def do_plain_row(store, word, first, second):
    """Does a row behind which the next one comes and tells what it said."""
    if word in ("number", "taken", "argument", "self"):
        push(store, word_told(store, word, first))
    elif word == "close":
        push(store, made(store, "closure", [word_of_mark(first)] + take(store, second)))
    elif word in ("pair", "box"):
        push(store, made(store, word, take(store, 2 if word == "pair" else 1)))
    elif word in ("first", "second", "look"):
        place = told_by(take(store, 1)[0])
        push(store, fetch(store, store.words[place + (2 if word == "second" else 1)]))
    elif word in ("plus", "minus", "times"):
        left, right = take(store, 2)
        push(store, word_of_number(reckoned(word, told_by(left), told_by(right))))
    elif word == "put":
        put(store)
    else:
        found = take(store, 1)[0]
        push(store, found)
        return [told_by(found)]
    return []


def word_told(store, word, first):
    """The word that a row tells which takes nothing off the stack."""
    base = store.read("base")
    if word == "number":
        return word_of_number(first)
    if word == "argument":
        return fetch(store, store.words[base + 1])
    closure = fetch(store, store.words[base])
    if word == "self":
        return closure
    return fetch(store, store.words[told_by(closure) + 2 + first])


def take(store, many):
    """The last operands, fetched, the first of them first; they are taken off the stack."""
    top = store.read("top")
    operands = store.words[top - many:top]
    store.write("top", top - many)
    return [fetch(store, word) for word in operands]


def push(store, word):
    """Puts a word on the stack."""
    store.words[store.read("top")] = word
    store.grow("top", 1)


def made(store, kind, fields):
    """The address of an object that is made of these fields."""
    young = store.read("young")
    store.words[young:young + 1 + len(fields)] = [word_of_header(kind, len(fields))] + fields
    store.grow("young", 1 + len(fields))
    return word_of_address(young)


def put(store):
    """Does the row put, but for going on."""
    box, value = take(store, 2)
    store.words[told_by(box) + 1] = value
    if is_put_remembered(store, box, value):
        store.words[store.read("remembered") + store.read("many")] = box
        store.grow("many", 1)
    push(store, value)


def leave_body(store, word):
    """Does a row behind which that of another body comes."""
    if word == "back":
        value = take(store, 1)[0]
        give_back(store, value)
        return
    row, top, base = store.read("row"), store.read("top"), store.read("base")
    closure, argument = take(store, 2)
    if word == "call":
        store.words[top - 2:top] = [word_of_mark(row + 1), word_of_mark(base)]
        base = top
    store.words[base:base + 2] = [closure, argument]
    store.write("base", base)
    store.write("top", base + 2)
    body = told_by(store.words[told_by(closure) + 1])
    store.write("row", told_by(store.words[place_of_body(body)]))


def give_back(store, value):
    """Gives a value to the caller of the running frame, or ends with it."""
    base, stack = store.read("base"), store.read("stack")
    if base == stack + 2:
        store.write("status", ENDED)
        row, caller = 0, 0
    else:
        row, caller = told_by(store.words[base - 2]), told_by(store.words[base - 1])
    store.words[base - 2] = value
    store.write("top", base - 1)
    store.write("row", row)
    store.write("base", caller)
