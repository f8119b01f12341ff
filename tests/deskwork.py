"""A desk kept in a plain way, to compare with."""

import itertools

from tests.provable import provable
from wordfractions.errors import FitError, SizeError, WatchError, WordsError
from wordfractions.kinds.shape import size_of
from wordfractions.kinds.text import format_kind
from wordfractions.words.phrase import check_phrase


def row_of(dictionary, words):
    return [dictionary.kinds_of(word) if word in dictionary else () for word in words]


def is_large(dictionary, words):
    everything = list(itertools.islice(itertools.product(*row_of(dictionary, words)), 1001))
    atoms = max([sum(size_of(kind) for kind in choice + (dictionary.wish,)) for choice in everything] or [0])
    return len(everything) > 1000 or atoms > 24


def is_sentence(dictionary, words):
    return any(provable(choice, dictionary.wish) for choice in itertools.product(*row_of(dictionary, words)))


def dictionary_text(dictionary):
    rows = ["wish " + format_kind(dictionary.wish)]
    for word, kinds in dictionary.entries:
        rows.append(word + " : " + " ; ".join(format_kind(kind) for kind in kinds))
    return "\n".join(rows)


class PlainDesk:
    """Keeps a list of states; undo looks for the last one that is not undone."""

    def __init__(self, dictionary):
        self.head = dictionary_text(dictionary) + "\n---\n"
        self.dictionary, self.watched = dictionary, ()
        self.work = 0
        self.past = []
        self.texts = []

    def state(self):
        return (self.dictionary.wish, self.dictionary.entries, self.watched, self.work, self.journal(), len(self.past))

    def journal(self):
        return self.head + "".join(text + "\n" for text in self.texts)

    def verdicts(self):
        return tuple((words, is_sentence(self.dictionary, words)) for words in self.watched)

    def do(self, deed):
        name, rest = deed[0], deed[1:]
        dictionary, watched = self.dictionary, self.watched
        if name == "put":
            dictionary = dictionary.with_kind(*rest)
        elif name == "drop":
            dictionary = dictionary.without_kind(*rest)
        elif name == "wish":
            dictionary = dictionary.with_wish(*rest)
        elif name == "undo":
            if not self.past:
                raise FitError("nothing")
            dictionary, watched = self.past[-1]
        else:
            check_phrase(rest[0])
            if (rest[0] in watched) != (name == "unwatch"):
                raise WatchError("watched or not")
            if name == "unwatch":
                watched = tuple(words for words in watched if words != rest[0])
            else:
                if len(watched) == 20:
                    raise SizeError("twenty")
                watched += (rest[0],)
        if any(is_large(dictionary, words) for words in watched):
            raise SizeError("large")
        for words in watched:
            if (words not in self.watched or dictionary.wish != self.dictionary.wish
                    or row_of(dictionary, words) != row_of(self.dictionary, words)):
                self.work += 1
        if name == "undo":
            self.past.pop()
        else:
            self.past.append((self.dictionary, self.watched))
        self.dictionary, self.watched = dictionary, watched
        words = [" ".join(part) if isinstance(part, tuple) and part[0] not in "/>*" else part for part in rest]
        texts = [format_kind(part) if isinstance(part, tuple) else part for part in words]
        self.texts.append(" ".join([name, *texts]))


def try_deed(desk, deed):
    """Do a deed by the method for it; return the class of the error, if there is one."""
    calls = {"put": desk.put, "drop": desk.drop, "wish": desk.set_wish, "watch": desk.watch, "unwatch": desk.unwatch,
             "undo": desk.undo}
    try:
        done = calls[deed[0]](*deed[1:])
    except WordsError as why:
        return type(why)
    assert done is None
    return None


def try_plain(desk, deed):
    try:
        desk.do(deed)
    except WordsError as why:
        return type(why)
    return None


def state_of(desk):
    """Everything of a desk that is seen, and how much there is to undo."""
    d = desk.dictionary
    again = type(desk).from_journal(desk.journal) if desk.journal.count("\n") <= 1000 else None
    left = 0
    while again is not None and try_deed(again, ("undo",)) is None:
        left += 1
    return (d.wish, d.entries, desk.watched, desk.work, desk.journal, left)


def deed_by_chance(rng, desk, kinds, words):
    name = rng.choice(("put", "put", "put", "drop", "drop", "wish", "watch", "watch", "watch", "unwatch", "undo", "undo"))
    if name in ("put", "drop"):
        word = rng.choice(words)
        if name == "drop" and rng.random() < 0.7 and word in desk.dictionary:
            return (name, word, rng.choice(desk.dictionary.kinds_of(word)))
        return (name, word, rng.choice(kinds))
    if name == "wish":
        return (name, rng.choice(kinds[:3]))
    if name == "undo":
        return (name,)
    if name == "unwatch" and desk.watched and rng.random() < 0.8:
        return (name, rng.choice(desk.watched))
    return (name, tuple(rng.choice(words) for _ in range(rng.randint(1, 4))))
