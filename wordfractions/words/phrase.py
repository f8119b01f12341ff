"""Phrases: rows of words."""

from wordfractions.errors import FitError, SizeError, WordError
from wordfractions.words.word import is_word

MOST_PHRASE_WORDS = 6


def check_phrase(words):
    """Raise an error unless these words are a phrase."""
    if not isinstance(words, tuple) or len(words) == 0:
        raise FitError("not a tuple of words, or none")
    for word in words:
        if not is_word(word):
            raise WordError(word)
    if len(words) > MOST_PHRASE_WORDS:
        raise SizeError(f"more than {MOST_PHRASE_WORDS} words")


def phrase_row(dictionary, words):
    """Return the tuple of the kinds of each word, an empty one for an unknown word."""
    check_phrase(words)
    return tuple([dictionary.kinds_of(word) if word in dictionary else () for word in words])
