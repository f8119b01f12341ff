"""[70]: least numbers."""

import itertools
import random
import time

from tests.helper import Case, comb
from tests.provable import provable
from wordfractions.books.book import Book
from wordfractions.books.least import least_words
from wordfractions.errors import FitError

VP = (">", "n", "s")


def by_sequences(book, kinds, most):
    """The least numbers up to a length, from all sequences."""
    found = {}
    for length in range(1, most + 1):
        for sequence in itertools.product(kinds, repeat=length):
            for kind in book:
                if kind not in found and provable(sequence, kind):
                    found[kind] = length
    return found


def by_rounds(book, kinds):
    """The least numbers as [70] tells: round by round, until nothing falls."""
    found = {kind: 1 for first in kinds for kind in book.unary(first)}
    changed = True
    while changed:
        changed = False
        for a, b in itertools.product(list(found), repeat=2):
            for kind in book.binary(a, b):
                if found[a] + found[b] < found.get(kind, 10 ** 9):
                    found[kind] = found[a] + found[b]
                    changed = True
    return found


class LeastTest(Case):

    def judge(self, book, kinds, most):
        least = least_words(book, tuple((f"w{place}", kind) for place, kind in enumerate(kinds)))
        self.assertIs(type(least), dict)
        self.assertEqual(least, by_rounds(book, kinds))
        self.assertTrue(all(type(number) is int for number in least.values()))
        short = {kind: number for kind, number in least.items() if number <= most}
        self.assertEqual(short, by_sequences(book, kinds, most))
        return least

    def test_interface_example(self):
        least = least_words(Book(("n", "s"), 2), (("mary", "n"), ("sleeps", VP)))
        self.same((least["s"], least[("*", "s", "s")], len(least), ("/", "s", "n") in least), (2, 4, 7, False))
        self.judge(Book(("n", "s"), 2), ("n", VP), 4)

    def test_no_pairs(self):
        self.same(least_words(Book(("n", "s"), 2), ()), {})

    def test_one_pair(self):
        for book, most in ((Book(("n", "s"), 2), 4), (Book(("n",), 3), 4)):
            for kind in book:
                self.judge(book, (kind,), most)

    def test_several_pairs(self):
        rng = random.Random(1)
        for book, most, many in ((Book(("n", "s"), 2), 3, 40), (Book(("n",), 3), 3, 15), (Book(("a", "b", "c"), 2), 3, 20),
                                 (Book(("n", "s"), 1), 4, 5)):
            for _ in range(many):
                self.judge(book, rng.sample(list(book), min(len(book), rng.randint(2, 4))), most)

    def test_long_ways(self):
        """A chain of kinds, each of which is had only through the one ahead of it."""
        book = Book(tuple("abcdef"), 2)
        kinds = ["a"] + [("/", y, x) for x, y in itertools.pairwise("abcdef")]
        least = least_words(book, tuple(("word", kind) for kind in kinds))
        self.same([least[atom] for atom in "abcdef"], [1, 2, 3, 4, 5, 6])
        self.same(least[("*", "f", "f")], 12)
        self.same(least[("/", "f", "a")], 5)
        more = least_words(book, (("word", ("/", "c", "b")), ("word", ("/", "b", "a")), ("word", "a"),
                                  ("word", (">", "c", "d"))))
        self.same((more["c"], more["d"], more[("*", "d", "d")]), (3, 4, 8))

    def test_numbers_that_skip(self):
        """Between two numbers that are had may lie some that no kind has."""
        kinds = (("*", ("*", "n", "n"), "n"), (">", "n", (">", "n", "n")), ("*", "n", ("*", "n", "n")),
                 ("/", ("/", "n", "n"), "n"), (">", "n", ("*", "n", "n")))
        least = self.judge(Book(("n",), 3), kinds, 3)
        self.same(sorted(set(least.values())), [1, 2, 3, 4, 5, 7])
        book = Book(("n", "s"), 3)
        kinds = (("*", (">", "n", "s"), "s"), ("/", (">", "n", "n"), "s"), ("*", (">", "s", "n"), "n"),
                 ("*", ("*", "s", "s"), "s"), (">", "n", (">", "n", "n")))
        least = least_words(book, tuple(("word", kind) for kind in kinds))
        self.assertEqual(least, by_rounds(book, kinds))
        self.same(sorted(set(least.values())), [1, 2, 3, 5])

    def test_words_and_order_without_effect(self):
        book = Book(("n", "s"), 2)
        pairs = (("mary", "n"), ("sleeps", VP), ("not", ("/", VP[2], "n")))
        wanted = least_words(book, pairs)
        for row in itertools.permutations(pairs):
            self.assertEqual(least_words(book, row), wanted)
        self.assertEqual(least_words(book, tuple(("same", kind) for _, kind in pairs)), wanted)
        self.assertEqual(least_words(book, pairs + pairs), wanted)
        self.assertEqual(least_words(book, tuple(("no word", kind) for _, kind in pairs)), wanted)

    def test_strange_kinds(self):
        book = Book(("n", "s"), 2)
        for kind in ("m", "n.1", comb(3), comb(40)):
            self.refuses(FitError, least_words, book, (("word", kind),))
            self.refuses(FitError, least_words, book, (("word", "n"), ("other", kind)))

    def test_the_dict_is_new_with_each_call(self):
        book = Book(("n", "s"), 2)
        least = least_words(book, (("mary", "n"),))
        least["s"] = 7
        self.assertNotIn("s", least_words(book, (("mary", "n"),)))

    def test_large_books(self):
        begun = time.perf_counter()
        for book in (Book(("a", "b", "c"), 3), Book(("n",), 4), Book(tuple("abcdef"), 2)):
            kinds = list(book)
            for chosen in (kinds, kinds[::15], kinds[:8], kinds[-5:]):
                least = least_words(book, tuple(("word", kind) for kind in chosen))
                self.assertTrue(all(least[kind] == 1 for kind in chosen))
        self.assertLess(time.perf_counter() - begun, 60)
