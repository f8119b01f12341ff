"""[39], [40], [41], [43]: numbers of values, entries, pairs."""

import itertools

from tests.helper import Case, comb
from tests.worlds import count
from wordfractions.errors import FitError, SizeError
from wordfractions.kinds.order import kinds_up_to
from wordfractions.kinds.text import parse_kind
from wordfractions.meanings.values import apply_value, build_value, count_values, pair_value, split_value

WORLD = {"s": 2, "n": 3}
SN, NS = ("/", "s", "n"), ("/", "n", "s")
UNDER_SN, UNDER_NS = (">", "n", "s"), (">", "s", "n")
PAIR = ("*", "s", "n")
NO_FRACTIONS = ("n", "n.1", "s", PAIR, ("*", SN, NS))
NO_PAIRS = ("n", "n.1", SN, UNDER_SN, ("/", PAIR, PAIR))


class CountTest(Case):

    def test_interface_example(self):
        fraction = ("/", "n", "s")
        self.same((count_values(("/", "s", "n.4"), WORLD), build_value(fraction, WORLD, (2, 1)),
                   apply_value(fraction, WORLD, 5, 0), split_value(("*", "s", "n"), WORLD, 5)), (8, 5, 2, (1, 2)))

    def test_atoms(self):
        for size in (1, 2, 3):
            self.same(count_values("n", {"n": size}), size)
            self.same(count_values("n.17", {"n": size}), size)
        self.same(count_values("s", {"n": 3}), 1)
        self.same(count_values("s", {}), 1)
        self.same(count_values("n1", {"n": 3}), 1)
        self.same(count_values("n1.2", {"n1": 3, "n": 2}), 3)

    def test_fractions_and_pairs(self):
        self.same([count_values(kind, WORLD) for kind in (SN, UNDER_SN, NS, UNDER_NS, PAIR)], [8, 8, 9, 9, 6])
        for kind in kinds_up_to(("n", "s"), 3):
            if count(kind, WORLD) <= 10 ** 12:
                self.same(count_values(kind, WORLD), count(kind, WORLD))

    def test_one_value(self):
        self.same(count_values(parse_kind("a / (n * (n / n))"), WORLD), 1)
        self.same(count_values(parse_kind("((n > s) / n) > a"), WORLD), 1)
        self.same(count_values(parse_kind("n / a"), WORLD), 3)
        self.same(count_values(parse_kind("a > n"), WORLD), 3)
        self.same(count_values(comb(40), {}), 1)
        self.same(count_values(comb(40, sign="*"), {"n": 1}), 1)

    def test_just_below_and_above(self):
        # 2 ** 39 is below 10 ** 12, and 2 ** 40 is above; 3 ** 25 and 3 ** 26.
        self.same(count_values(comb(39, atom="s", sign="*"), WORLD), 2 ** 39)
        self.refuses(SizeError, count_values, comb(40, atom="s", sign="*"), WORLD)
        self.same(count_values(comb(25, sign="*"), WORLD), 3 ** 25)
        self.refuses(SizeError, count_values, comb(26, sign="*"), WORLD)
        # As powers, whose exponents are products of 2 and 3.
        self.same(count_values(parse_kind("s / ((n * n) * (s * s))"), WORLD), 2 ** 36)
        self.refuses(SizeError, count_values, parse_kind("s / ((n * s) * (s * (s * s)))"), WORLD)
        self.same(count_values(parse_kind("n / ((s * s) * (s * n))"), WORLD), 3 ** 24)
        self.refuses(SizeError, count_values, parse_kind("n / (n * (n * n))"), WORLD)
        self.refuses(SizeError, count_values, parse_kind("(n * (n * n)) > n"), WORLD)
        self.same(count_values(parse_kind("(n * n) / (s * (s * n))"), WORLD), 9 ** 12)
        self.refuses(SizeError, count_values, parse_kind("(n * n) / (n * (s * (s * s)))"), WORLD)

    def test_products_around_the_bound(self):
        def product(twos, threes):
            kind = "s"
            for atom in "s" * (twos - 1) + "n" * threes:
                kind = ("*", kind, atom)
            return kind

        for twos in range(1, 40):
            for threes in range(0, 40 - twos):
                many = 2 ** twos * 3 ** threes
                if many <= 10 ** 12:
                    self.same(count_values(product(twos, threes), WORLD), many)
                else:
                    self.refuses(SizeError, count_values, product(twos, threes), WORLD)

    def test_above_the_bound_within(self):
        """Also within a kind with one value, and on either side."""
        large = comb(26, sign="*")
        for kind in (("/", "a", large), (">", large, "a"), ("/", ("/", "a", large), "n"), ("*", "a", ("/", "a", large)),
                     ("/", large, "a"), (">", "a", large), ("*", large, "a"), (">", ("/", "a", large), "a")):
            self.refuses(SizeError, count_values, kind, WORLD)
        below = comb(25, sign="*")
        self.same(count_values(("/", "a", below), WORLD), 1)
        self.same(count_values((">", below, "a"), WORLD), 1)
        self.refuses(SizeError, count_values, ("/", "s", below), WORLD)
        self.refuses(SizeError, count_values, (">", below, "n"), WORLD)

    def test_towers(self):
        kind = "s"
        for _ in range(3):
            kind = ("/", kind, "s")
        self.same(count_values(kind, WORLD), 2 ** 8)
        self.same(count_values(parse_kind("s / (s / (s / s))"), WORLD), 2 ** 16)
        self.refuses(SizeError, count_values, parse_kind("s / (s / (s / (s / s)))"), WORLD)
        self.refuses(SizeError, count_values, comb(40, left=False, sign="/"), WORLD)
        self.refuses(SizeError, count_values, comb(40, left=False, sign=">"), WORLD)
        self.refuses(SizeError, count_values, comb(40, left=True, sign=">"), WORLD)
        self.refuses(SizeError, count_values, comb(40, left=True), WORLD)
        self.refuses(SizeError, count_values, ("/", "n", comb(25, sign="*")), WORLD)

    def test_the_world_stays(self):
        world = {"s": 2, "n": 3}
        count_values(parse_kind("a / (s * n)"), world)
        apply_value(SN, world, 6, 1)
        build_value(NS, world, (2, 1))
        pair_value(PAIR, world, 1, 2)
        split_value(PAIR, world, 5)
        self.same(world, {"s": 2, "n": 3})


class EntryTest(Case):

    def test_examples_of_40(self):
        for kind in (SN, UNDER_SN):
            self.same([apply_value(kind, WORLD, 6, place) for place in range(3)], [0, 1, 1])
            self.same(build_value(kind, WORLD, (0, 1, 1)), 6)
        for kind in (NS, UNDER_NS):
            self.same([apply_value(kind, WORLD, 5, place) for place in range(2)], [2, 1])
            self.same(build_value(kind, WORLD, (2, 1)), 5)

    def test_back_and_forth(self):
        for kind in (SN, UNDER_SN, NS, UNDER_NS, parse_kind("(s * s) / s"), parse_kind("s > (s / s)"), parse_kind("(s / s) > n"),
                     parse_kind("s / (n > a)"), parse_kind("(n / s) / s"), parse_kind("(n * s) > s"), parse_kind("n / a")):
            sign, first, second = kind
            result, argument = (first, second) if sign == "/" else (second, first)
            for value in range(count(kind, WORLD)):
                entries = tuple(apply_value(kind, WORLD, value, place) for place in range(count(argument, WORLD)))
                self.assertTrue(all(0 <= entry < count(result, WORLD) for entry in entries))
                self.same(build_value(kind, WORLD, entries), value)
            rows = itertools.product(range(count(result, WORLD)), repeat=count(argument, WORLD))
            values = sorted(build_value(kind, WORLD, entries) for entries in rows)
            self.same(values, list(range(count(kind, WORLD))))

    def test_a_result_with_one_value(self):
        wide = comb(25, sign="*")
        for kind in (("/", "a", wide), (">", wide, "a")):
            for place in (0, 1, 10 ** 11, 3 ** 25 - 1):
                self.same(apply_value(kind, WORLD, 0, place), 0)
        self.same(build_value(("/", "a", "n"), WORLD, (0, 0, 0)), 0)
        self.same(build_value((">", "n", "a"), WORLD, (0, 0, 0)), 0)
        self.same(build_value(("/", "a", "a"), WORLD, (0,)), 0)
        self.refuses(FitError, build_value, ("/", "a", "n"), WORLD, (0, 0))

    def test_the_lowest_and_the_highest_place(self):
        kind = ("/", "s", parse_kind("(n * n) * (s * s)"))
        for place in (0, 35):
            value = 2 ** place
            self.same([apply_value(kind, WORLD, value, other) for other in (0, 1, 34, 35)],
                      [int(other == place) for other in (0, 1, 34, 35)])
            self.same(build_value(kind, WORLD, tuple(int(other == place) for other in range(36))), value)
        self.same(apply_value(kind, WORLD, 2 ** 36 - 1, 35), 1)
        self.same(apply_value(NS, WORLD, 8, 1), 2)
        self.same(apply_value(NS, WORLD, 2, 1), 0)

    def test_no_fraction(self):
        for kind in NO_FRACTIONS:
            self.refuses(FitError, apply_value, kind, WORLD, 0, 0)
            self.refuses(FitError, build_value, kind, WORLD, ())
            self.refuses(FitError, build_value, kind, WORLD, (0, 0, 0))

    def test_wrong_numbers_of_entries(self):
        for kind in (SN, UNDER_SN):
            for entries in ((), (0,), (0, 1), (0, 1, 1, 0), (0,) * 8):
                self.refuses(FitError, build_value, kind, WORLD, entries)
        self.refuses(FitError, build_value, ("/", "n", "a"), WORLD, ())
        self.refuses(FitError, build_value, ("/", "n", "a"), WORLD, (1, 1))
        self.same(build_value(("/", "n", "a"), WORLD, (2,)), 2)


class PairTest(Case):

    def test_back_and_forth(self):
        for kind in (PAIR, ("*", "n", "s"), ("*", "n.1", "n.2"), ("*", SN, "n"), ("*", "a", "n"), ("*", "n", "a"),
                     ("*", PAIR, NS)):
            found = []
            for first in range(count(kind[1], WORLD)):
                for second in range(count(kind[2], WORLD)):
                    value = pair_value(kind, WORLD, first, second)
                    self.same(value, first * count(kind[2], WORLD) + second)
                    self.same(split_value(kind, WORLD, value), (first, second))
                    found.append(value)
            self.same(found, list(range(count_values(kind, WORLD))))

    def test_no_pair(self):
        for kind in NO_PAIRS:
            self.refuses(FitError, pair_value, kind, WORLD, 0, 0)
            self.refuses(FitError, split_value, kind, WORLD, 0)
