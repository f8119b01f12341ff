"""Phrases completed to sentences."""

from wordfractions.desk.reading import first_choice, refuse_large_phrase
from wordfractions.errors import FitError, SizeError, WordError
from wordfractions.kinds.shape import is_whole
from wordfractions.search.follow import Follower
from wordfractions.words.phrase import MOST_PHRASE_WORDS
from wordfractions.words.word import is_word

MOST_FURTHER = 3
MOST_ROWS = 1000


def complete(dictionary, words, most):
    """Return the first further words that make the words a sentence, or None."""
    _refuse_others(dictionary, words, most)
    rows = [row for row in _list_further(dictionary, most) if len(words) + len(row) > 0]
    for row in rows:
        refuse_large_phrase(dictionary, words + row)
    follower = Follower()
    for row in rows:
        if first_choice(dictionary, words + row, follower) is not None:
            return row
    return None


def _refuse_others(dictionary, words, most):
    if not isinstance(words, tuple) or not is_whole(most) or not 0 <= most <= MOST_FURTHER:
        raise FitError("no tuple of words, or no good number of further words")
    for word in words:
        if not is_word(word):
            raise WordError(word)
    many = 1
    for _ in range(most):
        many = many * len(dictionary)
    if len(words) + most > MOST_PHRASE_WORDS or many > MOST_ROWS:
        raise SizeError("too many words, or too many ways to go on")


def _list_further(dictionary, most):
    """Return the tuples of at most so many words of the dictionary, in order."""
    longest = [()]
    rows = [()]
    for _ in range(most):
        longest = [row + (word,) for row in longest for word in dictionary]
        rows = rows + longest
    return rows
