"""Dictionaries: words that bear kinds, and a wish."""

from wordfractions.errors import FitError, SizeError, WordError
from wordfractions.kinds.shape import has_numbers, size_of
from wordfractions.words.word import is_word

MOST_WORDS = 60
MOST_KINDS = 60
MOST_KIND_ATOMS = 8


def check_kind(kind):
    """Raise an error unless a dictionary may have this kind."""
    if has_numbers(kind):
        raise FitError("a kind with numbers")
    if size_of(kind) > MOST_KIND_ATOMS:
        raise SizeError(f"a kind with more than {MOST_KIND_ATOMS} atoms")


def _check_kinds(kinds):
    if len(kinds) == 0:
        raise FitError("a word without kinds")
    if len(kinds) > MOST_KINDS:
        raise SizeError(f"a word with more than {MOST_KINDS} kinds")
    for place, kind in enumerate(kinds):
        check_kind(kind)
        if kind in kinds[:place]:
            raise FitError("a word with two equal kinds")


def _check_entries(entries):
    if len(entries) > MOST_WORDS:
        raise SizeError(f"more than {MOST_WORDS} words")
    seen = set()
    for word, kinds in entries:
        if not is_word(word):
            raise WordError(word)
        if word in seen:
            raise FitError("two entries with the same word")
        seen.add(word)
        _check_kinds(kinds)


class Dictionary:
    """A wish, and words in order, each with the kinds that it bears. It never changes."""

    def __init__(self, wish, entries=()):
        check_kind(wish)
        _check_entries(entries)
        self._wish = wish
        self._entries = entries
        self._kinds = dict(entries)

    @property
    def wish(self):
        """The kind of a sentence."""
        return self._wish

    @property
    def entries(self):
        """The pairs of a word and the tuple of its kinds."""
        return self._entries

    def __len__(self):
        return len(self._entries)

    def __contains__(self, word):
        return word in self._kinds

    def __iter__(self):
        return iter(self._kinds)

    def __eq__(self, other):
        return isinstance(other, Dictionary) and self._wish == other._wish and self._entries == other._entries

    def kinds_of(self, word):
        """Return the kinds that the word bears."""
        if word not in self._kinds:
            raise WordError(word)
        return self._kinds[word]

    def with_wish(self, kind):
        """Return the dictionary with another wish."""
        return Dictionary(kind, self._entries)

    def with_kind(self, word, kind):
        """Return the dictionary with one more kind for the word."""
        if not is_word(word):
            raise WordError(word)
        check_kind(kind)
        kinds = self._kinds.get(word, ())
        if kind in kinds:
            raise FitError("the word bears this kind already")
        # The bounds on kinds and words are those of the new dictionary.
        return self._with_kinds(word, kinds + (kind,))

    def without_kind(self, word, kind):
        """Return the dictionary with one kind less for the word."""
        kinds = self.kinds_of(word)
        if kind not in kinds:
            raise FitError("the word does not bear this kind")
        return self._with_kinds(word, tuple([other for other in kinds if other != kind]))

    def _with_kinds(self, word, kinds):
        """Return the dictionary in which the word bears these kinds; without any it goes."""
        table = dict(self._kinds)
        table[word] = kinds
        return Dictionary(self._wish, tuple([(key, table[key]) for key in table if table[key]]))
