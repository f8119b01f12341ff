"""[66], [67]: books and their rules."""

import time

from tests.helper import Case, bush, comb
from tests.provable import provable
from wordfractions.books.book import Book
from wordfractions.errors import FitError, SizeError
from wordfractions.kinds.order import kinds_up_to
from wordfractions.sequents.faults import first_fault
from wordfractions.sequents.rules import sequent_of

LARGE = Book(("a", "b", "c"), 3)


class MakeTest(Case):

    def test_interface_examples(self):
        book = Book(("s", "n"), 2)
        self.same((book.atoms, len(book), ("/", "s", "n") in book, "m" in book), (("n", "s"), 14, True, False))
        self.same(Book(("n",), 3).unary("n"), (
            "n", ("/", "n", (">", "n", "n")), ("/", ("*", "n", "n"), "n"), (">", "n", ("*", "n", "n")),
            (">", ("/", "n", "n"), "n")))

    def test_sizes(self):
        names = "abcdef"
        for many, most, wanted in ((1, 1, 1), (6, 1, 6), (1, 2, 4), (2, 2, 14), (6, 2, 114), (1, 3, 22), (2, 3, 158),
                                   (3, 3, 516), (1, 4, 157)):
            book = Book(tuple(names[:many]), most)
            kinds = kinds_up_to(tuple(names[:many]), most)
            self.same(len(book), len(kinds))
            self.same(len(book), wanted)
            self.same(tuple(book), kinds)
            self.same((book.atoms, book.most), (tuple(names[:many]), most))

    def test_too_many_kinds(self):
        names = "abcdef"
        for many, most in ((4, 3), (5, 3), (6, 3), (2, 4), (3, 4), (6, 4)):
            self.refuses(SizeError, Book, tuple(names[:many]), most)

    def test_atoms_in_any_order(self):
        for atoms in (("a", "b", "a1"), ("b", "a1", "a"), ("a1", "b", "a")):
            book = Book(atoms, 2)
            self.same(book.atoms, ("a", "a1", "b"))
            self.same(list(book), list(kinds_up_to(("a", "a1", "b"), 2)))

    def test_bad_atoms(self):
        for atoms in ((), ["n"], "n", None, True, 3, {"n": 1}, ("n.1",), ("n", "n"), ("N",), ("",), ("abcdefghi",),
                      (("/", "n", "n"),), ("n", 1), ("n", None), tuple("abcdefg"), ("a", "b", "a"), (("n",),), (["n"],)):
            for most in (1, 2, 4, 9):
                self.refuses(FitError, Book, atoms, most)

    def test_bad_sizes(self):
        for most in (0, -1, 5, 6, 10 ** 30, -10 ** 30, True, False, None, "2", "", (2,), [2]):
            self.refuses(FitError, Book, ("n",), most)
            self.refuses(FitError, Book, tuple("abcdef"), most)

    def test_class_value(self):
        self.same(Book.LIMIT, 600)
        self.same(Book(("n",), 1).LIMIT, 600)
        self.assertIn("LIMIT", vars(Book))

    def test_walked_twice(self):
        book = Book(("n", "s"), 2)
        self.same([kind for kind in book], [kind for kind in book])
        self.same([(a, b) for a in book for b in book][:3], [("n", "n"), ("n", "s"), ("n", ("/", "n", "n"))])
        walk = iter(book)
        self.same([next(walk), next(walk)], ["n", "s"])
        self.same(len(list(book)), 14)

    def test_kinds_that_are_in_it(self):
        book = Book(("n", "s"), 2)
        for kind in kinds_up_to(("n", "s"), 2):
            self.assertIs(kind in book, True)
        for kind in ("m", "n.1", ("/", "n", "m"), ("/", "n.1", "s"), ("*", "n", ("*", "n", "n")), comb(3), comb(40),
                     bush(40), ("/", ("/", "n", "n"), "n")):
            self.assertIs(kind in book, False)
        self.assertIs(comb(4) in Book(("n",), 4), True)
        self.assertIs(comb(5) in Book(("n",), 4), False)

    def test_nothing_can_be_set(self):
        for name in ("atoms", "most"):
            with self.assertRaises(AttributeError):
                setattr(Book(("n",), 1), name, 2)
        for name in ("atoms", "most", "__len__", "__contains__", "__iter__", "unary", "binary", "derivation",
                     "covering"):
            self.assertIn(name, vars(Book))


class CoveringTest(Case):

    def test_the_least_book(self):
        for kinds, atoms, most in ((("n",), ("n",), 1), (("s", "n", "s"), ("n", "s"), 1),
                                   ((("/", "s", "n"), "a"), ("a", "n", "s"), 2), ((bush(4),), ("n",), 4),
                                   (("z", ("*", "b", ("/", "b", "a"))), ("a", "b", "z"), 3),
                                   (tuple("fedcba"), tuple("abcdef"), 1)):
            book = Book.covering(*kinds)
            self.assertIsInstance(book, Book)
            self.same((book.atoms, book.most), (atoms, most))
            self.assertTrue(all(kind in book for kind in kinds))

    def test_errors_in_the_listed_order(self):
        numbered, large, wide = "n.1", bush(5), tuple("abcdefg")
        many = (("/", "a", "b"), ("/", "c", ("/", "d", "a")))
        for kinds in ((numbered,), ("n", numbered), (large, numbered), wide + (numbered,), many + (numbered,),
                      (("/", "n", numbered),), (("/", numbered, large),)):
            self.refuses(FitError, Book.covering, *kinds)
        for kinds in ((large,), ("n", large), (comb(40),), (bush(5, "a"),), wide, many, (bush(4), "s"),
                      (("*", ("*", "a", "b"), ("*", "c", "d")),), (comb(3), "a", "b", "c")):
            self.refuses(SizeError, Book.covering, *kinds)
        self.same(len(Book.covering(comb(3), "a", "b")), 516)


class RulesTest(Case):

    def judge(self, book):
        kinds = list(book)
        for a in kinds:
            self.same(book.unary(a), tuple(c for c in kinds if provable((a,), c)))
            for b in kinds:
                self.same(book.binary(a, b), tuple(c for c in kinds if provable((a, b), c)))

    def test_small_books(self):
        for atoms, most in ((("n",), 1), (("n",), 2), (("n",), 3), (("n", "s"), 1), (("s", "n"), 2),
                            (("a", "b", "c"), 2)):
            self.judge(Book(atoms, most))

    def test_some_rules_of_larger_books(self):
        for book in (Book(("n",), 4), Book(("n", "s"), 3), LARGE, Book(tuple("abcdef"), 2)):
            kinds = list(book)
            for a in kinds[::13]:
                self.same(book.unary(a), tuple(c for c in kinds if provable((a,), c)))
                for b in kinds[7::41]:
                    self.same(book.binary(a, b), tuple(c for c in kinds if provable((a, b), c)))

    def test_asked_again_behind_others(self):
        book = Book(("n", "s"), 2)
        first = [book.binary(a, b) for a in book for b in book] + [book.unary(a) for a in book]
        for kind in book:
            book.unary(kind)
        self.same([book.binary(a, b) for a in book for b in book] + [book.unary(a) for a in book], first)
        other = Book(("n", "s"), 2)
        self.same([other.unary(a) for a in reversed(list(other))], [book.unary(a) for a in reversed(list(book))])

    def test_more_rules_than_are_kept(self):
        """What is forgotten is found again."""
        book = Book(("n",), 4)
        kinds = list(book)
        wanted = book.binary(kinds[30], kinds[60])
        for a in kinds[4:22]:
            for b in kinds[4:60]:
                book.binary(a, b)
        self.same(book.binary(kinds[30], kinds[60]), wanted)
        self.same(wanted, tuple(c for c in kinds if provable((kinds[30], kinds[60]), c)))
        self.same(book.binary("n", ("/", "n", "n")), tuple(c for c in kinds if provable(("n", ("/", "n", "n")), c)))

    def test_large_books_cost_nothing(self):
        begun = time.perf_counter()
        for _ in range(20):
            Book(("a", "b", "c"), 3)
        book = Book(("a", "b", "c"), 3)
        self.assertIn("a", book.unary("a"))
        self.assertIn("a", book.binary(("/", "a", "b"), "b"))
        self.assertIn("a", book.binary(("/", "a", ("/", "b", "c")), ("/", "b", "c")))
        for kind in list(book)[::10]:
            self.assertIn(kind, book.unary(kind))
        self.assertLess(time.perf_counter() - begun, 5)

    def test_kinds_that_are_not_in_it(self):
        book = Book(("n", "s"), 2)
        for kind in ("m", "n.1", comb(3), comb(40), ("/", "n", "m")):
            self.refuses(FitError, book.unary, kind)
            self.refuses(FitError, book.binary, kind, "n")
            self.refuses(FitError, book.binary, "n", kind)
            self.refuses(FitError, book.derivation, kind, ("n",))
            self.refuses(FitError, book.derivation, "n", (kind,))
            self.refuses(FitError, book.derivation, "n", ("n", kind))
            self.refuses(FitError, book.derivation, "n", (kind, "n"))

    def test_derivations(self):
        for book in (Book(("n", "s"), 2), Book(("n",), 3)):
            for a in book:
                self.judge_derivations(book, (a,), book.unary(a))
                for b in list(book)[::3]:
                    self.judge_derivations(book, (a, b), book.binary(a, b))

    def judge_derivations(self, book, parts, led):
        for kind in book:
            if kind in led:
                derivation = book.derivation(kind, parts)
                self.same(sequent_of(derivation), (parts, kind))
                self.assertIsNone(first_fault(derivation))
            else:
                self.refuses(FitError, book.derivation, kind, parts)

    def test_derivations_of_the_largest(self):
        book = Book(("n",), 4)
        for kind in list(book)[-3:]:
            self.assertIsNone(first_fault(book.derivation(kind, (kind,))))
        pair = ("/", ("/", ("/", "n", "n"), "n"), "n")
        self.refuses(FitError, book.derivation, pair, (pair, pair))

    def test_numbers_of_parts(self):
        book = Book(("n",), 4)
        for parts in ((), ("n", "n", "n"), ("n",) * 13, (("/", "n", "n"), ("/", "n", "n"), "n")):
            self.refuses(FitError, book.derivation, "n", parts)
