"""A memory that is judged, and what the rules have told of it so far."""

from formstead.layout import place_through
from formstead.wordsorts import fields_of_header, is_address_word, kind_of_header, told_by


class Judged:
    """A memory that is judged; what one rule has found out serves those behind it."""

    def __init__(self, words):
        self.words = words
        # The numbers of the registers by their names.
        self.told = {}
        # For each row, the number of its body and how many operands there are ahead of it.
        self.row_places = []
        # The area of each object by its place, those that were moved included.
        self.areas = {}

    def kind_of(self, place):
        """The kind of the object at a place, signposts read through."""
        return kind_of_header(self.words[place_through(self.words, place)])

    def unmoved(self, area):
        """The places of the objects of an area that were not moved, ascending."""
        return [
            place for place in sorted(self.areas)
            if self.areas[place] == area and not is_address_word(self.words[place])
        ]

    def field_places(self, place):
        """The places of the fields of an object that was not moved."""
        return list(range(place + 1, place + 1 + fields_of_header(self.words[place])))

    def words_in(self, area):
        """How many words the objects of an area have that were not moved."""
        return sum([1 + fields_of_header(self.words[place]) for place in self.unmoved(area)])

    def area_led_to(self, word):
        """The area of the object of whose place a word is the address; None for what is no such address."""
        return self.areas.get(told_by(word)) if is_address_word(word) else None
