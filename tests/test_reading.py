"""[62], [82], [83]: choices and reading."""

import itertools
import random
import time

from tests.helper import Case, bush, comb
from tests.provable import provable
from tests.test_dictionary import NOT_WORDS
from wordfractions.desk.reading import choices, read_words
from wordfractions.errors import FitError, SizeError, WordError
from wordfractions.kinds.order import kinds_up_to
from wordfractions.kinds.shape import size_of
from wordfractions.sequents.faults import first_fault
from wordfractions.sequents.rules import sequent_of
from wordfractions.sequents.sequent import balances_differ
from wordfractions.sequents.tables import closes, is_closed
from wordfractions.trees.shape import count_nodes, largest_size, leaves_of, tree_fault, tree_kind
from wordfractions.words.dictionary import Dictionary
from wordfractions.words.text import parse_dictionary

NEWS = parse_dictionary("wish s\nmary : n\nann : s / (n > s) ; n\nsees : (n > s) / n ; n > s\nsleeps : n > s ; n\nnot : s / s"
                        "\nthat : n / s ; (n > n) / s")
UNARY = kinds_up_to(("n",), 3)


def all_choices(dictionary, words):
    return list(itertools.product(*[dictionary.kinds_of(word) if word in dictionary else () for word in words]))


class ReadingTest(Case):

    def judge(self, dictionary, words):
        everything = all_choices(dictionary, words)
        wanted = tuple(choice for choice in everything if provable(choice, dictionary.wish))
        self.same(choices(dictionary, words), wanted)
        answer = read_words(dictionary, words)
        self.assertIs(type(answer), tuple)
        if not wanted:
            self.same((len(answer), answer[0]), (2, "none"))
            self.judge_table(answer[1], everything, dictionary.wish)
            return 0
        self.same((len(answer), answer[0], answer[1]), (4, "sentence", wanted[0]))
        _, choice, derivation, tree = answer
        self.same(sequent_of(derivation), (choice, dictionary.wish))
        self.assertIsNone(first_fault(derivation))
        self.assertIsNone(tree_fault(tree))
        self.same((leaves_of(tree), tree_kind(tree)), (choice, dictionary.wish))
        self.assertLessEqual(largest_size(tree), max(size_of(kind) for kind in choice + (dictionary.wish,)))
        self.same(count_nodes(tree), (1, 1, 0) if len(words) == 1 else (len(words), 0, len(words) - 1))
        return len(wanted)

    def judge_table(self, table, everything, wish):
        """As `closes` says of each choice, but the table is judged only once."""
        self.assertIs(type(table), tuple)
        self.assertIs(is_closed(table), True)
        for choice in everything:
            self.assertTrue(balances_differ((choice, wish)) or (choice, wish) in table)
        for choice in everything[:2]:
            self.assertIs(closes(table, (choice, wish)), True)

    def test_the_order(self):
        """The kind of the last word changes fastest."""
        d = Dictionary("n", (("a", (("/", "n", "n"), ("/", "n", ("/", "n", "n")), "n")), ("b", ("n", ("/", "n", "n"), (">", "n", "n")))))
        self.same(choices(d, ("a", "b")), (
            (("/", "n", "n"), "n"), (("/", "n", ("/", "n", "n")), ("/", "n", "n")), ("n", (">", "n", "n"))))
        self.judge(d, ("a", "b"))
        both = Dictionary("n", (("a", (("/", "n", "n"), ("/", ("/", "n", "n"), ("/", "n", "n")))), ("b", ("n", ("*", "n", "n")))))
        for words in itertools.product("ab", repeat=3):
            self.judge(both, words)

    def test_phrases(self):
        yes = 0
        for many in (1, 2, 3):
            for words in itertools.product(("mary", "ann", "sees", "sleeps", "not", "that", "dog"), repeat=many):
                yes += self.judge(NEWS, words) > 0
        self.assertGreater(yes, 8)
        for words in (("not", "mary", "sees", "ann"), ("mary", "sees", "that", "ann", "sleeps"),
                      ("not", "not", "mary", "sees", "that", "mary"), ("ann", "sees", "ann", "that", "sleeps", "sleeps")):
            self.judge(NEWS, words)

    def test_dictionaries_by_chance(self):
        rng = random.Random(1)
        met = [0, 0, 0]
        for atoms, most in ((("n",), 3), (("n", "s"), 2), (("n",), 2), (("n",), 4)):
            kinds = kinds_up_to(atoms, most)
            for _ in range(40):
                d = Dictionary(rng.choice(kinds[:40]), tuple((word, tuple(rng.sample(kinds, rng.randint(1, 4)))) for word in "abc"))
                words = tuple(rng.choice("abcabcabcd") for _ in range(rng.randint(1, 5)))
                met[min(self.judge(d, words), 2)] += 1
        self.assertGreater(min(met), 5)

    def test_one_table_for_all_choices(self):
        d = Dictionary("n", (("a", UNARY[1:16]), ("b", UNARY[3:18])))
        d = Dictionary(("/", ("/", "n", "n"), ("/", "n", "n")), d.entries)
        for words in (("a", "b"), ("b", "a"), ("a",), ("b", "b")):
            self.judge(d, words)
        d = Dictionary("s", (("a", ("n", (">", "n", "s"), ("/", "s", ("/", "s", "s")))), ("b", ("n", ("/", "s", "n"), ("*", "s", "s")))))
        for words in (("a", "a", "b"), ("b", "a"), ("b", "b", "b")):
            self.judge(d, words)

    def test_without_a_choice(self):
        for words in (("dog",), ("dog", "mary"), ("mary", "dog", "sleeps"), ("ann",) * 5 + ("dog",)):
            self.same(choices(NEWS, words), ())
            status, table = read_words(NEWS, words)
            self.same(status, "none")
            self.assertTrue(closes(table, (("n",), "s")) and closes(table, (("s",), "n")))
        self.same(choices(Dictionary("s"), ("dog",)), ())

    def test_a_thousand_choices_and_one_more(self):
        def many(*numbers):
            return Dictionary("n", tuple((word, UNARY[:number]) for word, number in zip("abcdef", numbers)))
        for numbers, fits in (((10, 10, 10), True), ((7, 11, 13), False), ((20, 10, 5), True), ((22, 22, 2), True),
                              ((22, 22, 3), False), ((1, 1, 10, 10, 10), True), ((3, 3, 3, 4, 3, 3), True), ((4, 4, 4, 4, 4), False)):
            d, words = many(*numbers), tuple("abcdef")[:len(numbers)]
            if fits:
                self.judge(d, words)
            else:
                self.refuses(SizeError, choices, d, words)
                self.refuses(SizeError, read_words, d, words)
        self.same(choices(many(7, 11, 13), ("a", "b", "c", "x")), ())
        begun = time.perf_counter()
        wide = Dictionary("s", tuple((word, UNARY) for word in "abcdef"))
        self.refuses(SizeError, choices, wide, ("a", "b", "c"))
        self.same(choices(wide, ("a", "b", "c", "d", "e", "x")), ())
        self.same(choices(wide, ("x",) * 6), ())
        self.assertEqual(read_words(wide, ("a", "b", "c", "d", "e", "x"))[0], "none")
        self.assertLess(time.perf_counter() - begun, 5)

    def test_twenty_four_atoms_and_one_more(self):
        eight = bush(8)
        d = Dictionary(eight, (("a", ("n", comb(8))), ("b", (comb(8, sign=">"), "n")), ("c", ("n",)), ("d", (bush(7), "s"))))
        for words, fits in ((("a", "b"), True), (("a", "b", "c"), False), (("b", "a"), True), (("d", "a", "c"), True),
                            (("d", "a", "c", "c"), False), (("c",) * 6, True), (("a", "a", "x"), True), (("a", "b", "d"), False)):
            if fits:
                self.judge(d, words)
            else:
                self.refuses(SizeError, choices, d, words)
                self.refuses(SizeError, read_words, d, words)
        # A single choice may be too large, too.
        lone = Dictionary("n", (("a", (bush(8),)), ("b", (bush(7),))))
        self.same(choices(lone, ("a", "a", "b")), ())
        self.refuses(SizeError, choices, lone, ("a", "a", "a"))
        # The kinds of a word count only by the largest one.
        fit = Dictionary("s", (("a", (bush(8), "n")), ("b", ("n", bush(7)))))
        self.same(choices(fit, ("a", "a", "b")), ())
        self.refuses(SizeError, choices, fit, ("a", "a", "a"))
        self.same(choices(fit, ("a", "a", "a", "x")), ())

    def test_errors_of_check_phrase(self):
        wide = Dictionary("s", tuple((word, UNARY) for word in "abcdef"))
        for d in (NEWS, wide):
            for call in (choices, read_words):
                for words in ((), ["mary"], None, "mary", True):
                    self.refuses(FitError, call, d, words)
                for text in NOT_WORDS:
                    self.refuses(WordError, call, d, ("a",) * 6 + (text,), word=text)
                self.refuses(SizeError, call, d, ("a",) * 7)
                self.refuses(SizeError, call, d, ("dog",) * 7)

    def test_large_phrases(self):
        begun = time.perf_counter()
        rng = random.Random(2)
        for many, size in ((3, 6), (4, 5), (5, 4), (6, 3)):
            kinds = [kind for kind in kinds_up_to(("n",), min(size, 4)) if size_of(kind) == min(size, 4)]
            if size > 4:
                kinds = [("/" if k % 2 else ">", kind, ("/", "n", "n") if size == 6 else "n") for k, kind in enumerate(kinds)]
            number = {3: 10, 4: 5, 5: 3, 6: 3}[many]
            d = Dictionary("n", tuple((word, tuple(rng.sample(kinds, number))) for word in "abcdef"))
            words = tuple("abcdef")[:many]
            found = choices(d, words)
            answer = read_words(d, words)
            self.assertEqual(answer[0] == "sentence", found != ())
            if not found:
                self.judge_table(answer[1], all_choices(d, words), "n")
        self.assertLess(time.perf_counter() - begun, 60)
