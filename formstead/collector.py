"""The collector: its room, its steps, and what is reached."""

from formstead.arguments import check_number
from formstead.collecting import (
    begin_great, begin_small, has_room_for_nursery, is_collected_whole, step_great, step_small,
)
from formstead.errors import NoRoom, NotNow, NotThere
from formstead.layout import number_at, objects_of_area, room_in
from formstead.reaching import reached_in
from formstead.stores import Store, fetch, move
from formstead.wordsorts import GREATEST_PLACE

OUT_OF_ROOM = 4


def room(memory):
    """The free words of the half in use, without those that are kept for what may still be moved."""
    return room_in(memory)


def moved(memory, place):
    """The memory in which the object at a place was moved, and the place of the copy."""
    check_number(place, 0, GREATEST_PLACE)
    found = objects_of_area(memory, "other")
    if number_at(memory, "small") == 1:
        found = found + objects_of_area(memory, "nursery")
    if place not in [row[0] for row in found]:
        raise NotThere()
    store = Store(memory)
    copy = move(store, place)
    return (store.as_memory(), copy)


def fetched(memory, word):
    """The memory behind the fetching of a word, and the word that this gives."""
    store = Store(memory)
    found = fetch(store, word)
    return (store.as_memory(), found)


def begun_small(memory):
    """The memory in which a small collection has begun."""
    store = Store(memory)
    if store.read("small") == 1 or store.read("status") != 0:
        raise NotNow()
    if not has_room_for_nursery(store):
        raise NoRoom()
    begin_small(store)
    return store.as_memory()


def small_step(memory):
    """The memory behind one step of the small collection."""
    store = Store(memory)
    if store.read("small") == 0:
        raise NotNow()
    step_small(store)
    return store.as_memory()


def begun_great(memory):
    """The memory in which a great collection has begun."""
    store = Store(memory)
    if any([store.read(name) != 0 for name in ("great", "small", "many", "status")]):
        raise NotNow()
    if store.read("young") != store.read("nursery"):
        raise NotNow()
    begin_great(store)
    return store.as_memory()


def great_step(memory):
    """The memory behind one step of the great collection."""
    store = Store(memory)
    if store.read("great") == 0 or store.read("small") == 1:
        raise NotNow()
    step_great(store)
    return store.as_memory()


def reached(memory):
    """The places of all reached objects, ascending, copies told and not signposts."""
    return reached_in(memory)


def collected(memory):
    """The memory behind a whole collection; None if there is none."""
    store = Store(memory)
    if store.read("status") == OUT_OF_ROOM:
        raise NotNow()
    return store.as_memory() if is_collected_whole(store) else None
