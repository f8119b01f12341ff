"""Words, and rows of texts that hold them."""

from wordfractions.kinds.shape import SMALL_LETTERS, consists_of

WORD_LENGTH = 12


def is_word(text):
    """Tell whether the text is a word."""
    return 1 <= len(text) <= WORD_LENGTH and consists_of(text, SMALL_LETTERS)


def row_counts(row):
    """Tell whether the row is neither blank nor a remark."""
    return row.strip(" ") != "" and not row.startswith("#")
