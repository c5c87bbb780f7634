"""The small and the great collection, step by step, and whole ones."""

from formstead.layout import is_address_in_nursery, is_address_in_other, other_half, place_through, room_in
from formstead.stores import lead_anew
from formstead.wordsorts import told_by


def words_of_nursery(store):
    """How many words of the nursery are in use."""
    return store.read("young") - store.read("nursery")


def has_room_for_nursery(store):
    """Whether a small collection would have the room that it needs."""
    return room_in(store.words) >= words_of_nursery(store)


def begin_small(store):
    """Begins a small collection."""
    store.write("small", 1)
    store.write("look", store.read("old"))
    store.write("step", store.read("stack"))
    store.write("kept", 0)


def step_small(store):
    """One step of the small collection."""
    step, kept, look = store.read("step"), store.read("kept"), store.read("look")
    if step < store.read("top"):
        lead_from_nursery(store, step)
        store.write("step", step + 1)
    elif kept < store.read("many"):
        lead_from_nursery(store, place_of_remembered(store, kept) + 1)
        store.write("kept", kept + 1)
    elif look < store.read("old"):
        lead_from_nursery(store, look)
        store.write("look", look + 1)
    else:
        end_small(store)


def lead_from_nursery(store, place):
    """Leads the word at a place anew if it is the address of a place in the nursery."""
    if is_address_in_nursery(store.words, store.words[place]):
        lead_anew(store, place)


def lead_from_other(store, place):
    """Leads the word at a place anew if it is the address of a place in the other half."""
    if is_address_in_other(store.words, store.words[place]):
        lead_anew(store, place)


def place_of_remembered(store, kept):
    """The place of the box to which a remembered word leads."""
    word = store.words[store.read("remembered") + kept]
    return place_through(store.words, told_by(word))


def end_small(store):
    """Ends the small collection; a great one begins if there is little room."""
    store.write("young", store.read("nursery"))
    store.write("many", 0)
    store.write("small", 0)
    nursery = store.read("first") - store.read("nursery")
    if store.read("great") == 0 and room_in(store.words) < 2 * nursery:
        begin_great(store)


def begin_great(store):
    """Begins a great collection."""
    half, old, other = store.read("half"), store.read("old"), other_half(store.words)
    store.write("great", 1)
    store.write("edge", old)
    store.write("left", old - half)
    store.write("half", other)
    store.write("old", other)
    store.write("scan", other)
    store.write("low", store.read("stack"))
    store.write("owed", 0)


def step_great(store):
    """One step of the great collection."""
    low, scan = store.read("low"), store.read("scan")
    if low < store.read("top"):
        lead_from_other(store, low)
        store.write("low", low + 1)
    elif scan < store.read("old"):
        lead_from_other(store, scan)
        store.write("scan", scan + 1)
    else:
        for name in ("great", "left", "edge", "owed"):
            store.write(name, 0)


def finish_small(store):
    """Does the steps of the small collection to its end, if one goes on."""
    while store.read("small") == 1:
        step_small(store)


def finish_great(store):
    """Does the steps of the great collection to its end, if one goes on."""
    while store.read("great") == 1:
        step_great(store)


def is_collected_whole(store):
    """Whether there is a whole collection; it is done, or begun in vain."""
    finish_small(store)
    finish_great(store)
    if not has_room_for_nursery(store):
        return False
    begin_small(store)
    finish_small(store)
    if store.read("great") == 0:
        begin_great(store)
    finish_great(store)
    return True
