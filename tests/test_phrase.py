"""[60], [62]: phrases and their rows."""

from tests.helper import Case, bush
from tests.test_dictionary import NOT_WORDS
from wordfractions.errors import FitError, SizeError, WordError
from wordfractions.words.dictionary import Dictionary
from wordfractions.words.phrase import check_phrase, phrase_row

D = Dictionary("s", (("mary", ("n",)), ("sees", ((">", "n", "s"), "s", bush(8)))))


class PhraseTest(Case):

    def both(self):
        return (check_phrase, lambda words: phrase_row(D, words))

    def test_one_to_six_words(self):
        for many in range(1, 7):
            self.assertIsNone(check_phrase(("mary",) * many))
            self.same(phrase_row(D, ("mary",) * many), (("n",),) * many)
        self.assertIsNone(check_phrase(("a", "abcdefghijkl", "wish", "undo")))

    def test_rows(self):
        sees = D.kinds_of("sees")
        self.same(phrase_row(D, ("mary", "sees", "mary")), (("n",), sees, ("n",)))
        self.same(phrase_row(D, ("dog", "sees")), ((), sees))
        self.same(phrase_row(D, ("dog",)), ((),))
        self.same(phrase_row(Dictionary("s"), ("mary", "sees")), ((), ()))

    def test_no_tuple(self):
        for call in self.both():
            for words in (None, True, 0, "mary", ["mary"], {"mary": 1}, {"mary"}, b"mary", D, [], "", range(3)):
                self.refuses(FitError, call, words)

    def test_no_words(self):
        for call in self.both():
            self.refuses(FitError, call, ())

    def test_bad_words(self):
        for call in self.both():
            for text in NOT_WORDS:
                for many in (1, 2, 6, 7, 9):
                    for place in range(many):
                        words = ("mary",) * place + (text,) + ("mary",) * (many - place - 1)
                        self.refuses(WordError, call, words, word=text)
                self.refuses(WordError, call, ("mary", text, "Bad", ""), word=text)

    def test_too_many_words(self):
        for call in self.both():
            for many in (7, 8, 30):
                self.refuses(SizeError, call, ("mary",) * many)
                self.refuses(SizeError, call, ("dog",) * many)
