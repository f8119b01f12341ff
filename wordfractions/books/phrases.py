"""The book of a dictionary, and what it reads."""

from wordfractions.books.book import Book
from wordfractions.books.chart import read_row
from wordfractions.words.phrase import phrase_row


def dictionary_book(dictionary):
    """Return the least book that has the wish and all kinds of all words."""
    borne = [kind for _, kinds in dictionary.entries for kind in kinds]
    return Book.covering(dictionary.wish, *borne)


def book_reads(dictionary, words):
    """Return a tree for the wish over the row of the phrase, or None."""
    row = phrase_row(dictionary, words)
    return read_row(dictionary_book(dictionary), row, dictionary.wish)
