"""[69], [71]: the book of a dictionary, and what it reads."""

import itertools
import random

from tests.helper import Case, bush
from tests.provable import provable
from tests.test_dictionary import NOT_WORDS
from wordfractions.books.book import Book
from wordfractions.books.phrases import book_reads, dictionary_book
from wordfractions.errors import FitError, SizeError, WordError
from wordfractions.kinds.order import kinds_up_to
from wordfractions.trees.shape import count_nodes, leaves_of, tree_fault, tree_kind, walk_nodes
from wordfractions.words.dictionary import Dictionary
from wordfractions.words.text import parse_dictionary

WIDE = parse_dictionary("wish a\nx : b / c\ny : d ; e\nz : f ; g")
LONG = parse_dictionary("wish s\nx : n\ny : ((n / n) / n) / (n / n)")
CHAIN = parse_dictionary("wish a / d\nx : a / b\ny : b / c\nz : c / d")


class DictionaryBookTest(Case):

    def test_atoms_and_size(self):
        for text, atoms, most in (("wish s", ("s",), 1), ("wish s / n", ("n", "s"), 2), ("wish s\nmary : n", ("n", "s"), 1),
                                  ("wish s\nmary : n\nsees : (n > s) / n ; a", ("a", "n", "s"), 3),
                                  ("wish ((n / n) / n) / n\nmary : n", ("n",), 4),
                                  ("wish n\nmary : n\nann : n ; n / n", ("n",), 2)):
            book = dictionary_book(parse_dictionary(text))
            self.assertIsInstance(book, Book)
            self.same((book.atoms, book.most), (atoms, most))

    def test_too_large(self):
        for dictionary in (WIDE, LONG, Dictionary(bush(5)), Dictionary(bush(8)),
                           parse_dictionary("wish s\nmary : n ; a / (b / c)"),
                           parse_dictionary("wish s / n\nmary : (n / n) / (n / n)")):
            self.refuses(SizeError, dictionary_book, dictionary)

    def test_many_kinds(self):
        kinds = kinds_up_to(("a", "b", "c"), 3)
        entries = tuple((f"w{chr(97 + place)}", kinds[place * 8:place * 8 + 60]) for place in range(20))
        book = dictionary_book(Dictionary("a", entries))
        self.same((book.atoms, book.most, len(book)), (("a", "b", "c"), 3, 516))


class ReadsTest(Case):

    def judge(self, dictionary, words):
        tree = book_reads(dictionary, words)
        row = [dictionary.kinds_of(word) if word in dictionary else () for word in words]
        if not any(provable(choice, dictionary.wish) for choice in itertools.product(*row)):
            self.assertIsNone(tree)
            return False
        self.assertIsNone(tree_fault(tree))
        self.same(tree_kind(tree), dictionary.wish)
        self.assertTrue(all(leaf in kinds for leaf, kinds in zip(leaves_of(tree), row)))
        self.assertEqual(len(leaves_of(tree)), len(row))
        book = dictionary_book(dictionary)
        self.assertTrue(all(node[1] in book for _, node in walk_nodes(tree)))
        self.assertLessEqual(sum(count_nodes(tree)), 60)
        return True

    def test_the_example_of_71(self):
        self.assertTrue(self.judge(CHAIN, ("x", "y", "z")))
        met = {node[1] for _, node in walk_nodes(book_reads(CHAIN, ("x", "y", "z")))}
        self.assertTrue(met & {("/", "a", "c"), ("/", "b", "d")})

    def test_phrases(self):
        d = parse_dictionary("wish s\nmary : n\nann : n ; s / (n > s)\nsees : (n > s) / n\nsleeps : n > s\nnot : s / s\nhere : s > s")
        yes = 0
        for many in (1, 2, 3):
            for words in itertools.product(("mary", "ann", "sees", "sleeps", "not", "here", "dog"), repeat=many):
                yes += self.judge(d, words)
        self.assertGreater(yes, 8)
        for words in (("not", "not", "mary", "sees", "ann", "here"), ("ann", "sees", "mary", "here", "here", "here"),
                      ("mary", "mary", "sees", "ann", "here", "here"), ("dog",) * 6, ("mary", "sees", "dog")):
            self.judge(d, words)

    def test_dictionaries_by_chance(self):
        rng = random.Random(1)
        yes = 0
        for atoms, most in ((("n",), 3), (("n", "s"), 2), (("n", "s", "t"), 2)):
            kinds = kinds_up_to(atoms, most)
            for _ in range(40):
                d = Dictionary(rng.choice(kinds), tuple((word, tuple(rng.sample(kinds, rng.randint(1, 3)))) for word in "abcd"))
                for _ in range(6):
                    yes += self.judge(d, tuple(rng.choice("abcde") for _ in range(rng.randint(1, 4))))
        self.assertGreater(yes, 20)

    def test_words_that_are_not_there(self):
        for words in (("dog",), ("x", "dog", "z"), ("dog",) * 6):
            self.assertIsNone(book_reads(CHAIN, words))
        self.assertIsNone(book_reads(Dictionary("s"), ("dog",)))

    def test_errors_in_the_listed_order(self):
        for d in (WIDE, LONG, Dictionary(bush(8))):
            for words in ((), ["x"], None, "x", True):
                self.refuses(FitError, book_reads, d, words)
            for text in NOT_WORDS:
                self.refuses(WordError, book_reads, d, ("x",) * 6 + (text,), word=text)
            self.refuses(SizeError, book_reads, d, ("x",) * 7)
            for words in (("x",), ("dog",), ("x", "y", "z")):
                self.refuses(SizeError, book_reads, d, words)
        self.refuses(SizeError, book_reads, CHAIN, ("x",) * 7)
