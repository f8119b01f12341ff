"""[82], [90]: completing."""

import itertools
import random
import time

from tests.deskwork import is_large, is_sentence
from tests.helper import Case, bush
from tests.test_dictionary import NOT_WORDS
from wordfractions.desk.completion import complete
from wordfractions.errors import FitError, SizeError, WordError
from wordfractions.kinds.order import kinds_up_to
from wordfractions.words.dictionary import Dictionary
from wordfractions.words.text import parse_dictionary

NEWS = parse_dictionary("wish s\nsleeps : n > s\nmary : n\nsees : (n > s) / n\nthe : n / c\ncat : c")
UNARY = kinds_up_to(("n",), 3)


def many_words(many, kinds=("n",)):
    names = ["".join(pair) for pair in itertools.product("abcdefgh", repeat=2)]
    return tuple((name, kinds) for name in names[:many])


def by_hand(dictionary, words, most):
    """The completion, from all further words in order; SizeError where a phrase is too large."""
    rows = [row for many in range(most + 1) for row in itertools.product(list(dictionary), repeat=many) if words + row]
    if any(is_large(dictionary, words + row) for row in rows):
        return SizeError
    return next((row for row in rows if is_sentence(dictionary, words + row)), None)


class CompletionTest(Case):

    def judge(self, dictionary, words, most):
        wanted = by_hand(dictionary, words, most)
        if wanted is SizeError:
            self.refuses(SizeError, complete, dictionary, words, most)
        else:
            self.same(complete(dictionary, words, most), wanted)
        return wanted

    def test_interface_example(self):
        d = Dictionary("s", (("sleeps", (("/", "n", "n"), (">", "n", "s"))), ("mary", ("n",))))
        self.same((complete(d, (), 2), complete(d, ("mary",), 1), complete(d, ("sleeps",), 1)),
                  (("mary", "sleeps"), ("sleeps",), None))

    def test_sentences(self):
        for words in (("mary", "sleeps"), ("the", "cat", "sees", "mary")):
            for most in (0, 1, 2):
                self.same(complete(NEWS, words, most), ())
        for words, most, wanted in ((("mary",), 0, None), (("mary",), 1, ("sleeps",)), (("mary",), 2, ("sleeps",)),
                                    (("mary", "sees"), 1, ("mary",)), (("mary", "sees", "the"), 1, ("cat",)),
                                    (("the",), 1, None), (("the",), 2, ("cat", "sleeps")), (("mary", "mary"), 2, None),
                                    ((), 0, None), ((), 1, None), ((), 2, ("mary", "sleeps")), ((), 3, ("mary", "sleeps")),
                                    (("dog",), 2, None), (("dog", "sleeps"), 0, None)):
            self.same(complete(NEWS, words, most), wanted)
            self.judge(NEWS, words, most)

    def test_the_order(self):
        """The shortest first, then by the first further word, in the order of the dictionary."""
        d = parse_dictionary("wish s\nz : s / s ; s\nb : s / s\na : s ; s > s")
        for words in ((), ("z",), ("b",), ("a",), ("b", "b"), ("a", "b")):
            for most in range(4):
                self.judge(d, words, most)
        self.same(complete(parse_dictionary("wish s\nb : n > s\na : n > s\nc : s\nx : n"), ("x",), 3), ("b",))
        self.same(complete(parse_dictionary("wish s\na : n > s\nb : n > s\nx : n"), ("x",), 3), ("a",))
        self.same(complete(parse_dictionary("wish s\nb : n\na : n\nd : n > s\nc : n > s"), (), 2), ("b", "d"))
        self.same(complete(parse_dictionary("wish s\nb : n ; t / n\na : (t / n) > u ; s"), (), 1), ("a",))

    def test_by_chance(self):
        rng = random.Random(1)
        met = {}
        for _ in range(150):
            kinds = kinds_up_to(("n", "s"), 2)
            many = rng.randint(1, 5)
            d = Dictionary(rng.choice(kinds[:6]), tuple((word, tuple(rng.sample(kinds, rng.randint(1, 3)))) for word in "abcde"[:many]))
            words = tuple(rng.choice("abcdex") for _ in range(rng.randint(0, 3)))
            found = self.judge(d, words, rng.randint(0, 3))
            key = len(found) if isinstance(found, tuple) else found
            met[key] = met.get(key, 0) + 1
        self.assertGreaterEqual(set(met), {0, 1, 2, None})

    def test_an_empty_dictionary(self):
        for most in range(4):
            self.same(complete(Dictionary("s"), (), most), None)
            self.same(complete(Dictionary("s"), ("dog",), most), None)

    def test_bad_arguments(self):
        for words in (None, True, "mary", ["mary"], {"mary"}, 0, [], "", {}):
            for most in (0, 2, 9, None):
                self.refuses(FitError, complete, NEWS, words, most)
        for most in (None, True, False, -1, 4, 10 ** 30, "1", "", (1,), [1], 1.5):
            for words in ((), ("mary",), ("Mary",), ("mary",) * 9):
                self.refuses(FitError, complete, NEWS, words, most)

    def test_bad_words(self):
        wide = Dictionary("n", many_words(60, UNARY))
        for d in (NEWS, wide):
            for text in NOT_WORDS:
                for words in ((text,), ("mary", text), ("mary",) * 8 + (text,), (text, "A")):
                    self.refuses(WordError, complete, d, words, 3, word=text)

    def test_too_many_words(self):
        for many, most in ((7, 0), (6, 1), (5, 2), (4, 3), (9, 3)):
            self.refuses(SizeError, complete, NEWS, ("mary",) * many, most)
            self.refuses(SizeError, complete, NEWS, ("dog",) * many, most)
            self.refuses(SizeError, complete, Dictionary("s"), ("dog",) * many, most)
        for many, most in ((6, 0), (5, 1), (4, 2), (3, 3)):
            self.same(complete(NEWS, ("mary",) * many, most), None)

    def test_too_many_ways(self):
        for many, most, fits in ((60, 1, True), (31, 2, True), (32, 2, False), (10, 3, True), (11, 3, False), (60, 0, True),
                                 (60, 2, False), (60, 3, False), (1, 3, True)):
            d = Dictionary("s", many_words(many))
            if fits:
                self.same(complete(d, (), most), None)
                self.same(complete(d, ("aa",), most), None)
            else:
                self.refuses(SizeError, complete, d, (), most)
                self.refuses(SizeError, complete, d, ("dog",), most)

    def test_a_phrase_that_is_too_large(self):
        """Also where a sentence stands ahead of it."""
        d = Dictionary("n", (("a", ("n",)), ("b", UNARY[:11]), ("c", (bush(8),))))
        self.same(complete(d, (), 1), ("a",))
        self.same(complete(d, (), 2), ("a",))
        self.refuses(SizeError, complete, d, (), 3)
        self.same(complete(d, ("a",), 1), ())
        self.same(complete(d, ("a",), 2), ())
        self.refuses(SizeError, complete, d, ("a",), 3)
        self.refuses(SizeError, complete, d, ("b", "b"), 1)
        self.refuses(SizeError, complete, d, ("b", "b", "b"), 0)
        self.refuses(SizeError, complete, d, ("c", "c"), 1)
        self.same(complete(d, ("c", "c"), 0), None)
        # With a word that is not there no phrase is too large.
        self.same(complete(d, ("x", "b", "b"), 3), None)
        fit = Dictionary("n", (("a", ("n",)), ("b", UNARY[:10])))
        self.same(complete(fit, (), 3), ("a",))
        self.refuses(SizeError, complete, Dictionary("n", (("a", ("n",)), ("b", UNARY[:11]))), (), 3)

    def test_large_dictionaries(self):
        begun = time.perf_counter()
        kinds = tuple(kind for kind in UNARY if kind != "n")
        for many, most, words in ((60, 1, ("aa", "ab")), (31, 2, ("aa",)), (10, 3, ()), (10, 3, ("aa",))):
            entries = tuple((word, (kinds[place % 20], kinds[(place * 7 + 3) % 20]))
                            for place, (word, _) in enumerate(many_words(many)))
            d = Dictionary(("*", ("*", "n", "n"), ("*", ("*", "n", "n"), "s")), entries)
            self.same(complete(d, words, most), None)
            d = Dictionary("n", entries)
            found = complete(d, words, most)
            self.assertTrue(found is None or is_sentence(d, words + found))
        self.assertLess(time.perf_counter() - begun, 40)
