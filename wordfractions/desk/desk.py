"""The desk: a dictionary, and phrases that are watched while it changes."""

from wordfractions.desk.deeds import DROP, PUT, UNDO, UNWATCH, WATCH, WISH, format_deed, parse_deed
from wordfractions.desk.reading import first_choice, read_words, refuse_large_phrase
from wordfractions.errors import FitError, JournalError, SizeError, WatchError, WordsError
from wordfractions.search.follow import Follower
from wordfractions.words.phrase import check_phrase, phrase_row
from wordfractions.words.text import format_dictionary, parse_dictionary

MOST_WATCHED = 20
MOST_LINE_FEEDS = 1000
SEPARATOR = "---"


class Desk:
    """A dictionary and watched phrases. It changes by its deeds alone."""

    def __init__(self, dictionary):
        self._heading = f"{format_dictionary(dictionary)}\n{SEPARATOR}\n"
        self._texts = ()
        self._dictionary = dictionary
        self._watched = ()
        self._work = 0
        # What undo leads back to: pairs of a dictionary and watched phrases.
        self._past = ()
        # The verdicts that were asked for and still hold.
        self._settled = {}

    @property
    def dictionary(self):
        """The dictionary as it is now."""
        return self._dictionary

    @property
    def wish(self):
        """The wish of the dictionary."""
        return self._dictionary.wish

    @property
    def watched(self):
        """The watched phrases, in the order in which they were watched."""
        return self._watched

    @property
    def work(self):
        """How often a verdict had to be decided."""
        return self._work

    @property
    def journal(self):
        """The text of the first dictionary and of all deeds."""
        return self._heading + "".join([f"{text}\n" for text in self._texts])

    def put(self, word, kind):
        """Give the word one more kind."""
        dictionary = self._dictionary.with_kind(word, kind)
        self._refuse_large(dictionary)
        self._change((PUT, word, kind), dictionary, self._watched)

    def drop(self, word, kind):
        """Take a kind away from the word."""
        self._change((DROP, word, kind), self._dictionary.without_kind(word, kind), self._watched)

    def set_wish(self, kind):
        """Make the kind the wish."""
        dictionary = self._dictionary.with_wish(kind)
        self._refuse_large(dictionary)
        self._change((WISH, kind), dictionary, self._watched)

    def watch(self, words):
        """Watch the phrase."""
        check_phrase(words)
        if words in self._watched:
            raise WatchError("the phrase is watched already")
        if len(self._watched) == MOST_WATCHED:
            raise SizeError(f"{MOST_WATCHED} phrases are watched")
        refuse_large_phrase(self._dictionary, words)
        self._change((WATCH, words), self._dictionary, self._watched + (words,))

    def unwatch(self, words):
        """Watch the phrase no longer."""
        check_phrase(words)
        if words not in self._watched:
            raise WatchError("the phrase is not watched")
        left = tuple([other for other in self._watched if other != words])
        self._change((UNWATCH, words), self._dictionary, left)

    def undo(self):
        """Undo the last deed that is not undone yet."""
        if len(self._past) == 0:
            raise FitError("there is nothing to undo")
        dictionary, watched = self._past[-1]
        self._settle((UNDO,), dictionary, watched, self._past[:-1])

    def verdicts(self):
        """Return the pairs of a watched phrase and whether it is a sentence."""
        follower = Follower()
        settled = {}
        for words in self._watched:
            if words in self._settled:
                settled[words] = self._settled[words]
            else:
                settled[words] = first_choice(self._dictionary, words, follower) is not None
        self._settled = settled
        return tuple(settled.items())

    def read(self, words):
        """Return what reading the phrase gives."""
        return read_words(self._dictionary, words)

    def do(self, text):
        """Do the deed of the text."""
        deed = parse_deed(text)
        name = deed[0]
        if name == PUT:
            self.put(deed[1], deed[2])
        elif name == DROP:
            self.drop(deed[1], deed[2])
        elif name == WISH:
            self.set_wish(deed[1])
        elif name == WATCH:
            self.watch(deed[1])
        elif name == UNWATCH:
            self.unwatch(deed[1])
        else:
            self.undo()

    def do_all(self, texts):
        """Do the deeds of all texts, or none of them."""
        # No deed changes these values themselves: other ones take their places.
        held = (self._texts, self._dictionary, self._watched, self._work, self._past, self._settled)
        try:
            for text in texts:
                self.do(text)
        except WordsError:
            self._texts, self._dictionary, self._watched, self._work, self._past, self._settled = held
            raise

    @classmethod
    def from_journal(cls, text):
        """Return the desk of a journal, which may be cut off."""
        if text.count("\n") > MOST_LINE_FEEDS:
            raise SizeError(f"more than {MOST_LINE_FEEDS} line feeds")
        # What stands behind the last line feed is no ended row.
        rows = text.split("\n")[:-1]
        if SEPARATOR not in rows:
            raise JournalError("a journal without the row behind the dictionary")
        at = rows.index(SEPARATOR)
        try:
            desk = cls(parse_dictionary("\n".join(rows[:at])))
            desk.do_all(rows[at + 1:])
        except WordsError as why:
            raise JournalError("a dictionary or a deed that is not good") from why
        return desk

    def _refuse_large(self, dictionary):
        for words in self._watched:
            refuse_large_phrase(dictionary, words)

    def _change(self, deed, dictionary, watched):
        """Do a deed that can be undone."""
        self._settle(deed, dictionary, watched, self._past + ((self._dictionary, self._watched),))

    def _settle(self, deed, dictionary, watched, past):
        """Do the deed that leads to this dictionary, these watched phrases and this past."""
        settled = {}
        decisions = 0
        for words in watched:
            if self._is_decided_anew(words, dictionary):
                decisions += 1
            elif words in self._settled:
                settled[words] = self._settled[words]
        self._texts = self._texts + (format_deed(deed),)
        self._dictionary = dictionary
        self._watched = watched
        self._work = self._work + decisions
        self._past = past
        self._settled = settled

    def _is_decided_anew(self, words, dictionary):
        """Tell whether a phrase needs another verdict when the dictionary becomes this one."""
        if words not in self._watched or dictionary.wish != self._dictionary.wish:
            return True
        return phrase_row(dictionary, words) != phrase_row(self._dictionary, words)
