"""Grammars: a start, and rules that lead names to rows of items."""

from wordfractions.errors import FitError, SizeError
from wordfractions.kinds.shape import DIGITS, SMALL_LETTERS, begins_small, consists_of
from wordfractions.words.word import is_word

NAME_LENGTH = 6
MOST_ITEMS = 4
MOST_NAMES = 12
MOST_RULES = 120
QUOTE = '"'


def is_name(text):
    """Tell whether the text is a name."""
    return len(text) <= NAME_LENGTH and begins_small(text) and consists_of(text, SMALL_LETTERS + DIGITS)


def is_quoted(item):
    """Tell whether the item is a quoted word, and not a name."""
    return item.startswith(QUOTE)


def quote(word):
    """Return the item of the word."""
    return f"{QUOTE}{word}{QUOTE}"


def is_item(text):
    """Tell whether the text is a name or a word in double quotes."""
    if not is_quoted(text):
        return is_name(text)
    return text.endswith(QUOTE) and is_word(text[1:-1])


def is_rule(head, body):
    """Tell whether a head and a body make a rule."""
    return is_name(head) and 1 <= len(body) <= MOST_ITEMS and all([is_item(item) for item in body])


def _check_rules(rules):
    seen = set()
    for head, body in rules:
        if not is_rule(head, body):
            raise FitError("a rule without a good head and body")
        if (head, body) in seen:
            raise FitError("two equal rules")
        seen.add((head, body))


def _unlike(things):
    """Return the unlike ones of the things, in the order in which they first stand."""
    found = {}
    for thing in things:
        found[thing] = True
    return tuple(found)


def _list_names(start, rules):
    names = [start]
    for head, body in rules:
        names.append(head)
        names.extend([item for item in body if not is_quoted(item)])
    return _unlike(names)


def _list_words(rules):
    return _unlike([item[1:-1] for _, body in rules for item in body if is_quoted(item)])


def _is_two_part_body(body):
    if len(body) == 1:
        return is_quoted(body[0])
    return len(body) == 2 and not any([is_quoted(item) for item in body])


class Grammar:
    """A start and rules in order. It never changes."""

    def __init__(self, start, rules):
        if not is_name(start):
            raise FitError("the start is not a name")
        _check_rules(rules)
        names = _list_names(start, rules)
        if len(names) > MOST_NAMES or len(rules) > MOST_RULES:
            raise SizeError("too many names or rules")
        self._start = start
        self._rules = rules
        self._names = names
        self._words = _list_words(rules)
        self._two_part = all([_is_two_part_body(body) for _, body in rules])

    @property
    def start(self):
        """The name that derives the phrases of the grammar."""
        return self._start

    @property
    def rules(self):
        """The pairs of a head and a body."""
        return self._rules

    @property
    def names(self):
        """The unlike names, in the order in which they first stand."""
        return self._names

    @property
    def words(self):
        """The unlike words without quotes, in the order in which they first stand."""
        return self._words

    @property
    def two_part(self):
        """True if every body is one quoted word or two names."""
        return self._two_part

    def __eq__(self, other):
        return isinstance(other, Grammar) and self._start == other._start and self._rules == other._rules
