"""The texts of deeds."""

from wordfractions.errors import DeedError, KindError, SizeError
from wordfractions.kinds.text import format_kind, parse_kind
from wordfractions.words.phrase import MOST_PHRASE_WORDS
from wordfractions.words.word import is_word

PUT = "put"
DROP = "drop"
WISH = "wish"
WATCH = "watch"
UNWATCH = "unwatch"
UNDO = "undo"


def format_deed(deed):
    """Return the text of the deed."""
    name = deed[0]
    if name in (PUT, DROP):
        return f"{name} {deed[1]} {format_kind(deed[2])}"
    if name == WISH:
        return f"{name} {format_kind(deed[1])}"
    if name in (WATCH, UNWATCH):
        return " ".join([name, *deed[1]])
    return name


def parse_deed(text):
    """Return the deed that the text means."""
    if text == UNDO:
        return (UNDO,)
    # Without a blank all parts but the first are empty, and so refused.
    name, _, rest = text.partition(" ")
    if name in (PUT, DROP):
        word, _, kind_text = rest.partition(" ")
        return (name, _read_words([word])[0], _read_kind(kind_text))
    if name == WISH:
        return (name, _read_kind(rest))
    if name in (WATCH, UNWATCH):
        return (name, _read_words(rest.split(" ")))
    raise DeedError("a text without the form of a deed")


def _read_words(words):
    if len(words) > MOST_PHRASE_WORDS or not all([is_word(word) for word in words]):
        raise DeedError("too many words, or a word that is none")
    return tuple(words)


def _read_kind(text):
    try:
        return parse_kind(text)
    except (KindError, SizeError) as why:
        raise DeedError("a text of a kind that is not good") from why
