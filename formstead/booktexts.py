"""Texts of books: read and printed."""

from formstead.bookreading import forms_of
from formstead.forms import words_of
from formstead.printing import printed_form


def read_book(text):
    """The book that a text tells."""
    book = forms_of(text)
    # What is no book is refused by the judge of books, last of all.
    words_of(book)
    return book


def print_book(book):
    """The print of a book, each form in a line of its own."""
    words = words_of(book)
    return "\n".join([printed_form(words, form) for form in book])
