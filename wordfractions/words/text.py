"""The texts of dictionaries, written and read."""

from wordfractions.errors import DictionaryError, FitError, KindError, SizeError
from wordfractions.kinds.shape import SMALL_LETTERS, consists_of
from wordfractions.kinds.text import format_kind, parse_kind
from wordfractions.words.dictionary import MOST_KINDS, MOST_WORDS, Dictionary, check_kind
from wordfractions.words.word import is_word, row_counts

CAPITAL_LETTERS = "ABCDEFGHIJKLMNOPQRSTUVWXYZ"
SHORT_LENGTH = 8
WISH_BEGINNING = "wish "
SHORT_BEGINNING = "short "


def format_kinds(kinds):
    """Return the texts of a word's kinds in one row."""
    return " ; ".join([format_kind(kind) for kind in kinds])


def format_dictionary(dictionary):
    """Return the text of the dictionary."""
    rows = [WISH_BEGINNING + format_kind(dictionary.wish)]
    for word, kinds in dictionary.entries:
        rows.append(f"{word} : {format_kinds(kinds)}")
    return "\n".join(rows)


def parse_dictionary(text):
    """Return the dictionary that the text means."""
    rows = text.split("\n")
    wish = None
    shorts = []
    entries = []
    for number, row in enumerate(rows, start=1):
        if not row_counts(row):
            continue
        if wish is None:
            wish = _read_wish(row)
            good = wish is not None
        elif ":" in row:
            good = _take_word_row(row, shorts, entries)
        else:
            good = _take_short_row(row, shorts)
        if not good:
            raise DictionaryError(number)
    if wish is None:
        raise DictionaryError(len(rows) + 1)
    return Dictionary(wish, tuple(entries))


def _read_kind(text, shorts):
    """Return the kind that the text means, or None if a dictionary cannot have it."""
    try:
        kind = parse_kind(text, shorts=tuple(shorts))
        check_kind(kind)
    except (FitError, KindError, SizeError):
        return None
    return kind


def _read_wish(row):
    """Return the wish, or None if this is not a good wish row."""
    if ":" in row or not row.startswith(WISH_BEGINNING):
        return None
    return _read_kind(row[len(WISH_BEGINNING):], ())


def _take_word_row(row, shorts, entries):
    """Add the entry of a word row; return False if the row is bad."""
    if row.count(":") != 1:
        return False
    ahead, behind = row.split(":")
    word = ahead.strip(" ")
    texts = behind.split(";")
    if not is_word(word) or word in [earlier for earlier, _ in entries]:
        return False
    if len(entries) == MOST_WORDS or len(texts) > MOST_KINDS:
        return False
    kinds = []
    for text in texts:
        kind = _read_kind(text, shorts)
        if kind is None or kind in kinds:
            return False
        kinds.append(kind)
    entries.append((word, tuple(kinds)))
    return True


def _take_short_row(row, shorts):
    """Add the short name of a short row; return False if the row is bad."""
    if not row.startswith(SHORT_BEGINNING) or row.count("=") != 1:
        return False
    ahead, behind = row[len(SHORT_BEGINNING):].split("=")
    name = ahead.strip(" ")
    kind = _read_kind(behind, shorts)
    if not _is_short_name(name) or name in [earlier for earlier, _ in shorts] or kind is None:
        return False
    shorts.append((name, kind))
    return True


def _is_short_name(text):
    if not 1 <= len(text) <= SHORT_LENGTH:
        return False
    return text[0] in CAPITAL_LETTERS and consists_of(text[1:], SMALL_LETTERS)
