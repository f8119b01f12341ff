"""[68], [69]: charts, and trees over rows."""

import itertools
import random
import time

from tests.helper import Case, comb
from tests.provable import provable
from wordfractions.books.book import Book
from wordfractions.books.chart import fill_chart, read_row
from wordfractions.errors import FitError, SizeError
from wordfractions.trees.back import tree_derivation
from wordfractions.trees.shape import count_nodes, leaves_of, tree_fault, tree_kind, walk_nodes
from wordfractions.sequents.rules import sequent_of

VP = (">", "n", "s")
DET = ("/", "n", "c")


def derivable_from(book, row):
    """The kinds of the book that some choice of the row derives."""
    return tuple(kind for kind in book if any(provable(choice, kind) for choice in itertools.product(*row)))


def rows_by_chance(book, rng, many, most):
    kinds = list(book)
    for _ in range(many):
        yield tuple(tuple(rng.sample(kinds, min(len(kinds), rng.choice((0, 1, 1, 2, 2, 3))))) for _ in range(rng.randint(1, most)))


class ChartTest(Case):

    def judge(self, book, row):
        chart = fill_chart(book, row)
        self.assertIs(type(chart), dict)
        spans = [(i, j) for j in range(1, len(row) + 1) for i in range(j)]
        self.assertEqual(set(chart), set(spans))
        self.assertEqual(len(chart), len(spans))
        for i, j in spans:
            self.same(chart[(i, j)], derivable_from(book, row[i:j]))
        return chart

    def test_interface_example(self):
        chart = fill_chart(Book(("n", "s"), 2), (("n",), ("n", VP), ()))
        self.same((chart[(0, 2)], chart[(1, 2)], chart[(2, 3)], len(chart)),
                  (("s", ("*", "n", "n")), ("n", VP), (), 6))
        self.judge(Book(("n", "s"), 2), (("n",), ("n", VP), ()))

    def test_one_place(self):
        book = Book(("n",), 3)
        for kinds in ((), ("n",), ("n", "n"), tuple(book), tuple(book)[5:9]):
            self.judge(book, (kinds,))

    def test_places_by_chance(self):
        rng = random.Random(1)
        for book, many, most in ((Book(("n", "s"), 2), 60, 4), (Book(("n",), 3), 25, 4), (Book(("n", "s"), 1), 30, 6),
                                 (Book(("a", "b", "c"), 2), 25, 4)):
            for row in rows_by_chance(book, rng, many, most):
                self.judge(book, row)

    def test_eight_places(self):
        book = Book(("n", "s"), 2)
        self.judge(book, ((("/", "n", "n"),),) * 7 + (("n",),))
        self.judge(book, (("n",), (VP, ("/", "s", "s")), ("s", ("/", "s", "n")), ("n",), (VP,), (("/", "s", "s"),),
                          ("s",), ((">", "s", "s"),)))
        self.judge(book, (("n",),) * 8)
        self.judge(book, (("n", (">", "n", "n")),) * 6)

    def test_kinds_that_stand_nowhere_in_the_row(self):
        book = Book(("a", "b", "c", "d"), 2)
        chart = self.judge(book, ((("/", "a", "b"),), (("/", "b", "c"),), (("/", "c", "d"),)))
        self.assertIn(("/", "a", "d"), chart[(0, 3)])

    def test_a_larger_book_tells_the_same(self):
        rng = random.Random(2)
        small, large = Book(("n",), 2), Book(("n", "s"), 3)
        for row in rows_by_chance(small, rng, 30, 5):
            one, other = fill_chart(small, row), fill_chart(large, row)
            for span, kinds in one.items():
                self.same(tuple(kind for kind in other[span] if kind in small), kinds)

    def test_the_dict_is_new_with_each_call(self):
        book = Book(("n", "s"), 2)
        row = (("n",), (VP,))
        chart = fill_chart(book, row)
        wanted = dict(chart)
        chart[(0, 2)] = ("n",)
        del chart[(0, 1)]
        self.same(fill_chart(book, row), wanted)
        self.assertIsNot(fill_chart(book, row), fill_chart(book, row))
        self.assertEqual(tree_kind(read_row(book, row, "s")), "s")

    def test_errors_in_the_listed_order(self):
        book = Book(("n", "s"), 2)
        for call in (lambda row: fill_chart(book, row), lambda row: read_row(book, row, "m"),
                     lambda row: read_row(book, row, "s")):
            self.refuses(FitError, call, ())
            self.refuses(SizeError, call, (("n",),) * 9)
            self.refuses(SizeError, call, (("m",),) * 9)
            self.refuses(SizeError, call, ((),) * 9)
            for kind in ("m", "n.1", comb(3), comb(40)):
                self.refuses(FitError, call, ((kind,),))
                self.refuses(FitError, call, ((), ("n",), ("s", kind)))
                self.refuses(FitError, call, (("n",),) * 7 + ((kind,),))

    def test_large_rows(self):
        begun = time.perf_counter()
        for book in (Book(("a", "b", "c"), 3), Book(("n",), 4), Book(tuple("abcdef"), 2)):
            kinds = tuple(book)
            chart = fill_chart(book, (kinds[::40],) * 8)
            self.assertEqual(len(chart), 36)
            self.same(fill_chart(book, (kinds,) * 8)[(0, 1)], kinds)
        self.assertLess(time.perf_counter() - begun, 60)


class ReadTest(Case):

    def judge(self, book, row, wish):
        tree = read_row(book, row, wish)
        if not any(provable(choice, wish) for choice in itertools.product(*row)):
            self.assertIsNone(tree)
            return None
        self.assertIsNone(tree_fault(tree))
        self.same(tree_kind(tree), wish)
        leaves = leaves_of(tree)
        self.assertEqual(len(leaves), len(row))
        for leaf, kinds in zip(leaves, row):
            self.assertIn(leaf, kinds)
        for _, node in walk_nodes(tree):
            self.assertTrue(node[1] in book)
        self.assertLessEqual(sum(count_nodes(tree)), 60)
        self.same(sequent_of(tree_derivation(tree)), (leaves, wish))
        return tree

    def test_one_place(self):
        for book in (Book(("n",), 3), Book(("n", "s"), 2)):
            for kind in book:
                for wish in book:
                    self.judge(book, ((kind,),), wish)
                self.judge(book, ((),), kind)
                self.judge(book, ((kind, "n"),), "n")

    def test_places_by_chance(self):
        rng = random.Random(3)
        met = 0
        for book, many, most in ((Book(("n", "s"), 2), 60, 5), (Book(("n",), 3), 40, 4), (Book(("n", "s"), 1), 30, 6),
                                 (Book(("n",), 2), 60, 6)):
            for row in rows_by_chance(book, rng, many, most):
                for wish in rng.sample(list(book), min(len(book), 5)):
                    met += self.judge(book, row, wish) is not None
        self.assertGreater(met, 40)

    def test_eight_places(self):
        book = Book(("n", "s"), 2)
        for row, wish in (((("n",), (VP, ("/", "s", "s")), (("/", "s", "s"), ("/", "s", "n")), ("n",), (VP,),
                            (("/", "s", "s"),), ("s",), ((">", "s", "s"),)), "s"),
                          (((("/", "n", "n"),),) * 7 + (("n",),), "n"),
                          (((("/", "n", "n"),),) * 8, ("/", "n", "n")), ((("n",),) * 8, "n"),
                          ((("n", ("/", "n", "n"), (">", "n", "n")),) * 8, "n")):
            self.judge(book, row, wish)

    def test_a_kind_that_stands_nowhere_in_the_row(self):
        row = ((("/", "a", "b"),), (("/", "b", "c"),), (("/", "c", "d"),))
        book = Book(("a", "b", "c", "d"), 2)
        tree = self.judge(book, row, ("/", "a", "d"))
        self.assertTrue({("/", "a", "c"), ("/", "b", "d")} & {node[1] for _, node in walk_nodes(tree)})

    def test_a_larger_book_answers_the_same(self):
        rng = random.Random(4)
        small, large = Book(("n",), 2), Book(("m", "n"), 3)
        for row in rows_by_chance(small, rng, 25, 5):
            for wish in small:
                self.assertEqual(self.judge(small, row, wish) is None, self.judge(large, row, wish) is None)

    def test_a_strange_wish(self):
        book = Book(("n", "s"), 2)
        for wish in ("m", "n.1", comb(3), comb(40)):
            self.refuses(FitError, read_row, book, (("n",),), wish)
            self.refuses(FitError, read_row, book, ((),), wish)
            self.refuses(SizeError, read_row, book, (("n",),) * 9, wish)
            self.refuses(FitError, read_row, book, (), wish)

    def test_a_large_row(self):
        book = Book(("a", "b", "c"), 3)
        kinds = tuple(book)
        tree = read_row(book, (kinds[::60],) * 8, ("*", "a", ("*", "a", "a")))
        self.assertTrue(tree is None or tree_fault(tree) is None)
        tree = read_row(Book(("n",), 4), (tuple(Book(("n",), 4)),) * 8, "n")
        self.assertIsNone(tree_fault(tree))
