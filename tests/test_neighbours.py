"""[11], [56]: neighbouring balances."""

import random

from tests.helper import Case
from tests.worlds import grown
from wordfractions.errors import FitError
from wordfractions.kinds.balance import Balance, multiply
from wordfractions.kinds.text import parse_kind
from wordfractions.trees.neighbours import neighbours

A, B, C, EMPTY = Balance.of("a"), Balance.of("b"), Balance.of("c"), Balance()


def of(text):
    return Balance.of(parse_kind(text))


class NeighboursTest(Case):

    def test_interface_example(self):
        self.same(neighbours((A, B, -B, -A)), 1)

    def test_lists(self):
        row = [A, B, -B, -A]
        self.same(neighbours(row), 1)
        self.assertEqual(row, [A, B, -B, -A])

    def test_two_balances(self):
        self.same(neighbours((A, -A)), 0)
        self.same(neighbours([of("a / b"), of("b / a")]), 0)
        self.same(neighbours((EMPTY, EMPTY)), 0)

    def test_empty_balances(self):
        self.same(neighbours((EMPTY, A, -A)), 0)
        self.same(neighbours((A, EMPTY, -A)), 0)
        self.same(neighbours((A, B, EMPTY, -B, -A)), 1)
        self.same(neighbours((A, B, -A, EMPTY, A, -B, -A)), 2)
        self.same(neighbours((EMPTY, EMPTY, EMPTY)), 0)
        self.same(neighbours((A, -A, EMPTY)), 0)

    def test_the_least_place(self):
        self.same(neighbours((A, -A, A, -A)), 0)
        self.same(neighbours((A, B, C, -C, -B, -A)), 2)
        self.same(neighbours((A, B, C, -C, -B, -A, A, -A)), 2)
        self.same(neighbours((A, B, -B * C, -C, -A)), 1)

    def test_no_longer_than_the_longer_one(self):
        # Two letters, and one: half of the first strikes out.
        self.same(neighbours((A * B, -B, -A)), 0)
        # A third of the letters strikes out: four letters are left of six.
        three, other = A * B * C, -C * A * B
        self.assertEqual(len(three * other), 4)
        self.same(neighbours((three, other, -other, -three)), 1)
        # Equal length: three letters of two and three.
        self.same(neighbours((A * B, -B * A * A, -A * -A * -A)), 0)
        # Longer than the first one, but not than the second one, and the other way.
        self.same(neighbours((A, -A * B * C * A, -A * -C * -B)), 0)
        self.same(neighbours((A * B * C * A, -A, -C * -B * -A)), 0)

    def test_fewer_than_two(self):
        for row in ((), [], (EMPTY,), [EMPTY], (A,), [A]):
            self.refuses(FitError, neighbours, row)

    def test_a_product_that_is_not_empty(self):
        for row in ((A, B), [A, -A, A], (A, A), (EMPTY, A), (A * B, -A, -B), (A, -A, B), (A, B, -A, -B)):
            self.refuses(FitError, neighbours, row)

    def test_balances_of_derivations(self):
        for derivation in grown(random.Random(1), 200, 8):
            row = [Balance.of(kind) for kind in derivation[1]] + [-Balance.of(derivation[2])]
            lengths = [(len(multiply(*row[k:k + 2])), max(len(row[k]), len(row[k + 1]))) for k in range(len(row) - 1)]
            fitting = [k for k, (product, longer) in enumerate(lengths) if product <= longer]
            self.same(neighbours(row), fitting[0])
            self.same(neighbours(tuple(row)), fitting[0])
