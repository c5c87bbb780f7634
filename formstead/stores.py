"""A memory that is being changed, and things moved in it."""

from formstead.layout import (
    PLACES, is_address_in_other, is_in_other, number_at, place_through, words_of_object,
)
from formstead.wordsorts import told_by, word_of_address, word_of_mark


class Store:
    """The words of a memory, which may be changed."""

    def __init__(self, memory):
        self.words = list(memory)

    def read(self, name):
        """The number of a register."""
        return number_at(self.words, name)

    def write(self, name, number):
        """Gives a register a number."""
        self.words[PLACES[name]] = word_of_mark(number)

    def grow(self, name, by):
        """Makes the number of a register greater."""
        self.write(name, self.read(name) + by)

    def as_memory(self):
        """The memory that stands here now."""
        return tuple(self.words)


def move(store, place):
    """The place of the copy of the object at a place of the nursery or of the other half, moved if it was not yet."""
    words = store.words
    copy = place_through(words, place)
    if copy != place:
        return copy
    many, old = words_of_object(words, place), store.read("old")
    words[old:old + many] = words[place:place + many]
    words[place] = word_of_address(old)
    store.write("old", old + many)
    if is_in_other(words, place):
        store.grow("left", -many)
    return old


def fetch(store, word):
    """The word that fetching gives."""
    if store.read("great") == 1 and is_address_in_other(store.words, word):
        return word_of_address(move(store, told_by(word)))
    return word


def lead_anew(store, place):
    """Leads the word at a place, an address, anew."""
    copy = move(store, told_by(store.words[place]))
    store.words[place] = word_of_address(copy)
