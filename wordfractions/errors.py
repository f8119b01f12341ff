"""The errors that the package raises."""


class WordsError(ValueError):
    """The base of all errors of the package; it is never raised itself."""


class KindError(WordsError):
    """A text is not a good text of a kind."""

    def __init__(self, place):
        super().__init__(f"not a good text of a kind, at place {place}")
        self.place = place


class SequentError(WordsError):
    """Something is not a sequent, or not the text of one."""


class SizeError(WordsError):
    """Something is beyond a bound."""


class FitError(WordsError):
    """Things do not fit together."""


class DerivationError(WordsError):
    """A row of a derivation's text is bad."""

    def __init__(self, row):
        super().__init__(f"bad text of a derivation, at row {row}")
        self.row = row


class GrammarError(WordsError):
    """A row of a grammar's text is bad."""

    def __init__(self, row):
        super().__init__(f"bad text of a grammar, at row {row}")
        self.row = row


class DictionaryError(WordsError):
    """A row of a dictionary's text is bad."""

    def __init__(self, row):
        super().__init__(f"bad text of a dictionary, at row {row}")
        self.row = row


class WordError(WordsError):
    """Something is not a word, or a word is not in the dictionary."""

    def __init__(self, word):
        super().__init__(f"no such word: {word}")
        self.word = word


class WatchError(WordsError):
    """A phrase is watched already, or is not watched."""


class DeedError(WordsError):
    """A text is not the text of a deed."""


class JournalError(WordsError):
    """A text is not a journal."""
