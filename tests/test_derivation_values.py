"""[42], [43], [44]: values of derivations."""

import itertools
import random

from tests.helper import Case, apply_over, apply_under, bush, comb, identity
from tests.test_derivation_rows import chain
from tests.worlds import WORLDS, choices, count, entry, grown, largest_count, value_of
from wordfractions.cuts.ways import lift_over
from wordfractions.errors import FitError, SizeError
from wordfractions.kinds.order import kinds_up_to
from wordfractions.kinds.text import parse_kind
from wordfractions.meanings.derivations import derivation_value
from wordfractions.meanings.values import build_value, pair_value
from wordfractions.search.listing import derivations_of
from wordfractions.sequents.rules import make_axiom, make_step
from wordfractions.sequents.text import parse_sequent

N, S = make_axiom("n"), make_axiom("s")
WORLD = {"n": 3, "s": 2}
OVER, UNDER, PAIR = ("/", "s", "n"), (">", "n", "s"), ("*", "n", "s")


class DerivationValueTest(Case):

    def test_interface_example(self):
        self.same(derivation_value(lift_over("n", "s"), {"n": 2, "s": 2}, (1,)), 12)

    def test_axioms(self):
        for value in range(3):
            self.same(derivation_value(N, WORLD, (value,)), value)
            self.same(derivation_value(make_axiom("n.4"), WORLD, (value,)), value)
        self.same(derivation_value(make_axiom("x"), WORLD, (0,)), 0)

    def test_left_rules(self):
        for fraction, argument in itertools.product(range(8), range(3)):
            wanted = fraction // 2 ** argument % 2
            self.same(derivation_value(apply_over("s", "n"), WORLD, (fraction, argument)), wanted)
            self.same(derivation_value(apply_under("s", "n"), WORLD, (argument, fraction)), wanted)
        wide = make_step("over left", 1, (apply_under("n", "s"), apply_under("s", "n")))
        self.assertEqual(wide[1], ("n", ("/", UNDER, "n"), "s", (">", "s", "n")))
        for n, f, s, g in choices(wide[1], WORLD, random.Random(1), 200):
            self.same(derivation_value(wide, WORLD, (n, f, s, g)), f // 8 ** (g // 3 ** s % 3) % 8 // 2 ** n % 2)

    def test_right_rules(self):
        for fraction in range(8):
            over = make_step("over right", 0, (apply_over("s", "n"),))
            under = make_step("under right", 0, (apply_under("s", "n"),))
            self.same(derivation_value(over, WORLD, (fraction,)), fraction)
            self.same(derivation_value(under, WORLD, (fraction,)), fraction)
        for argument in range(3):
            raised = make_step("under right", 0, (apply_over("s", "n"),))
            wanted = build_value((">", OVER, "s"), WORLD, tuple(f // 2 ** argument % 2 for f in range(8)))
            self.same(derivation_value(raised, WORLD, (argument,)), wanted)

    def test_pairs(self):
        for first, second in itertools.product(range(3), range(2)):
            together = make_step("pair right", 1, (N, S))
            self.same(derivation_value(together, WORLD, (first, second)), 2 * first + second)
            value = pair_value(PAIR, WORLD, first, second)
            opened = make_step("pair left", 0, (make_step("pair right", 1, (N, S)),))
            self.same(derivation_value(opened, WORLD, (value,)), value)
        exchanged = make_step("pair left", 0, (apply_under("s", "n"),))
        for n, f in itertools.product(range(3), range(8)):
            self.same(derivation_value(exchanged, WORLD, (8 * n + f,)), f // 2 ** n % 2)

    def test_cuts(self):
        raised = make_step("over right", 0, (apply_under("s", "n"),))
        cut = make_step("cut", 0, (raised, apply_over("s", UNDER)))
        for n, f in itertools.product(range(2), range(4)):
            self.same(derivation_value(cut, {"n": 2, "s": 2}, (n, f)), f // 2 ** n % 2)
        # A cut in the middle of other premises.
        row = make_step("pair right", 1, (S, make_step("pair right", 1, (N, S))))
        middle = make_step("cut", 1, (apply_under("n", "s"), row))
        for a, s, g, b in choices(middle[1], WORLD, random.Random(1), 200):
            self.same(derivation_value(middle, WORLD, (a, s, g, b)), a * 6 + g // 3 ** s % 3 * 2 + b)

    def test_identities(self):
        for kind in kinds_up_to(("n", "s"), 3):
            if count(kind, WORLD) <= 10 ** 4:
                for value in range(0, count(kind, WORLD), 7):
                    self.same(derivation_value(identity(kind), WORLD, (value,)), value)

    def test_by_chance(self):
        rng = random.Random(2)
        met = 0
        for derivation in grown(rng, 250, 6, cuts=True):
            for world in WORLDS:
                if largest_count(derivation, world) > 10 ** 4:
                    self.refuses(SizeError, derivation_value, derivation, world, (0,) * len(derivation[1]))
                    continue
                for values in choices(derivation[1], world, rng, 4):
                    self.same(derivation_value(derivation, world, values), value_of(derivation, world, values))
                    met += 1
        self.assertGreater(met, 2000)

    def test_the_two_values_of_44(self):
        sequent = parse_sequent("s / (n > s), (n > s) / n, (s / n) > s => s")
        world = {"n": 2, "s": 2}
        first_kind, second_kind, third_kind = sequent[0]
        first, second = {}, {}
        for p, v, q in itertools.product(range(16), repeat=3):
            def of(kind, value, argument):
                return entry(kind, world, value, argument)

            rows = [build_value(OVER, world, tuple(of(UNDER, of(second_kind, v, y), x) for y in range(2)))
                    for x in range(2)]
            table = build_value(UNDER, world, tuple(of(third_kind, q, row) for row in rows))
            first[p, v, q] = of(first_kind, p, table)
            table = build_value(OVER, world, tuple(of(first_kind, p, of(second_kind, v, y)) for y in range(2)))
            second[p, v, q] = of(third_kind, q, table)
        self.assertNotEqual(first, second)
        told = [{values: derivation_value(derivation, world, values) for values in first}
                for derivation in derivations_of(sequent)]
        self.assertIn(first, told)
        self.assertIn(second, told)

    def test_numbers_do_not_matter(self):
        plain = make_step("pair right", 1, (N, S))
        numbered = make_step("pair right", 1, (make_axiom("n.1"), make_axiom("s.2")))
        for values in choices(plain[1], WORLD, random.Random(1), 10):
            self.same(derivation_value(plain, WORLD, values), derivation_value(numbered, WORLD, values))

    def test_wrong_values(self):
        step = apply_over("s", "n")
        for values in ((), (0,), (0, 0, 0), (8, 0), (0, 3), (-1, 0), (0, -1), (0, 10 ** 30), (True, 0), (0, True),
                       (0, False), ("0", 0), (0, "n"), (None, 0), (0, ()), ((0, 0),)):
            self.refuses(FitError, derivation_value, step, WORLD, values)
        self.same(derivation_value(step, WORLD, (7, 2)), 1)
        self.refuses(FitError, derivation_value, make_axiom("x"), WORLD, (1,))

    def test_bounds(self):
        small, large = {"n": 3, "s": 2}, {"n": 2, "s": 2}
        # 3 ** 8 = 6561 fits, 2 ** 13 = 8192 too; 2 ** 14 and 3 ** 9 do not.
        fits = parse_kind("n / (s * (s * s))")
        self.same(derivation_value(identity(fits), small, (6560,)), 6560)
        for text in ("n / (n * n)", "(n * n) > n", "s / ((s * s) * (s * (s * s)))", "s / (n * (n * s))"):
            kind = parse_kind(text)
            self.assertGreater(count(kind, small), 10 ** 4)
            self.refuses(SizeError, derivation_value, identity(kind), small, (0,))
        self.same(derivation_value(identity(parse_kind("s / (n * (s * s))")), small, (4095,)), 4095)
        row = comb(13, atom="s", sign="*")
        self.same(derivation_value(identity(row), large, (8191,)), 8191)
        self.refuses(SizeError, derivation_value, identity(comb(14, atom="s", sign="*")), large, (0,))

    def test_just_at_the_bound(self):
        """No product of sizes is 10 ** 4; the nearest are 9216 and 10368."""
        world = {"n": 3, "s": 2}

        def product(twos, threes):
            kind = "s"
            for atom in "s" * (twos - 1) + "n" * threes:
                kind = ("*", kind, atom)
            return kind

        self.same(derivation_value(identity(product(10, 2)), world, (9215,)), 9215)
        self.refuses(SizeError, derivation_value, identity(product(7, 4)), world, (0,))

    def test_bounds_deep_within(self):
        large = parse_kind("n / (n * n)")
        world = {"n": 3}
        # The large kind is a premise and goal of a part, whose value is not needed.
        part = make_step("over left", 0, (identity(large), make_axiom("x")))
        self.refuses(SizeError, derivation_value, part, world, (0, 0))
        hidden = make_step("over right", 0, (make_step("over left", 0, (identity(large), make_axiom("x"))),))
        self.assertEqual(count(hidden[2], world), 1)
        self.refuses(SizeError, derivation_value, hidden, world, (0,))

    def test_bounds_behind_a_cut(self):
        """Only the steps of the cut's parts have the large kind."""
        row = N
        for _ in range(8):
            row = make_step("pair right", len(row[1]), (row, N))
        wide = row[2]
        self.assertEqual(wide, comb(9, sign="*"))
        back = make_step("over right", 0, (make_step("over left", 0, (identity(wide), S)),))
        applied = make_step("over left", 0, (row, S))
        self.assertGreater(count(wide, {"n": 3}), 10 ** 4)
        for cut in (make_step("cut", 0, (row, identity(wide))), make_step("cut", 0, (back, applied))):
            self.refuses(SizeError, derivation_value, cut, {"n": 3}, (0,) * len(cut[1]))
        small = make_step("cut", 0, (row, identity(wide)))
        self.same(derivation_value(small, {"n": 2}, (1,) * 9), 511)

    def test_the_size_ahead_of_the_values(self):
        large = identity(parse_kind("n / (n * n)"))
        for values in ((), (-1,), (True,), (0, 0), ("n",)):
            self.refuses(SizeError, derivation_value, large, WORLD, values)
            self.refuses(FitError, derivation_value, large, {}, values)
        self.same(derivation_value(large, {}, (0,)), 0)

    def test_beyond_the_bound_of_all_values(self):
        large = identity(comb(40, sign="*"))
        self.refuses(SizeError, derivation_value, large, WORLD, (0,))
        self.same(derivation_value(large, {}, (0,)), 0)
        self.refuses(SizeError, derivation_value, identity(("/", "x", comb(39, sign="*"))), WORLD, (0,))

    def test_one_value(self):
        """A part that need not be evaluated, with very many values of the argument."""
        row = comb(13, atom="s", sign="*")
        kind = ("/", "x", row)
        self.same(derivation_value(identity(kind), WORLD, (0,)), 0)
        self.same(derivation_value(identity((">", row, "x")), WORLD, (0,)), 0)

    def test_the_largest(self):
        long = N
        for _ in range(39):
            long = make_step("over left", 0, (long, N))
        self.same(derivation_value(long, {"n": 3}, (21,) * 39 + (1,)), value_of(long, {"n": 3}, (21,) * 39 + (1,)))
        for sign in "/>":
            for left in (True, False):
                made = identity(comb(40, sign=sign, left=left))
                self.same(derivation_value(made, {"n": 1}, (0,)), 0)
        self.same(derivation_value(chain(199), {"n": 3}, (2,)), 2)
        mixed = ("/", "s", bush(4))
        for _ in range(11):
            mixed = ("/", (">", "x", mixed), "x")
        self.same(derivation_value(identity(mixed), {"n": 1, "s": 3}, (2,)), 2)

    def test_bound_values_far_apart(self):
        """Each table is needed for each entry of the table around it."""
        deep = S
        for _ in range(13):
            inner = make_step("under left", 1, (N, make_step("over left", 0, (deep, S))))
            table = make_step("under right", 0, (inner,))
            deep = make_step("over left", 0, (table, S))
        world = {"n": 3, "s": 2}
        values = tuple([37, 5] * 13 + [1])
        self.assertEqual([count(kind, world) for kind in deep[1]], [256, 64] * 13 + [2])
        wanted = 1
        for _ in range(13):
            inside = sum(2 ** x * (5 // 4 ** x % 4 // 2 ** wanted % 2) for x in range(3))
            wanted = 37 // 2 ** inside % 2
        self.same(derivation_value(deep, world, values), wanted)

    def test_tables_within_tables(self):
        """The table within does not depend on the place in the table around it."""
        apply = make_step("over left", 0, (N, S))
        deep = apply
        for _ in range(18):
            deep = make_step("over left", 0, (make_step("over right", 0, (deep,)), apply))
        world = {"n": 2, "s": 2}
        self.assertEqual([count(kind, world) for kind in deep[1]], [256] * 18 + [4, 2])
        rng = random.Random(3)
        for _ in range(5):
            values = tuple(rng.randrange(count(kind, world)) for kind in deep[1])
            table = values[18]
            for value in reversed(values[:18]):
                table = value // 4 ** table % 4
            self.same(derivation_value(deep, world, values), table // 2 ** values[19] % 2)

    def test_very_many_bound_values(self):
        """Ten values are bound within one another, and the innermost step has them all."""
        world = {"n": 3, "u": 2}
        apply = make_step("over left", 0, (N, make_axiom("u")))
        deep = apply
        for _ in range(9):
            deep = make_step("over left", 0, (deep, apply))
        for _ in range(10):
            deep = make_step("over left", 0, (make_step("over right", 0, (deep,)), make_axiom("u")))
        self.assertEqual([count(kind, world) for kind in deep[1]], [256] * 10 + [64] * 9 + [8])
        rng = random.Random(4)
        values = tuple(rng.randrange(count(kind, world)) for kind in deep[1])
        outer, inner = values[:10], values[10:]

        def rest(level, function):
            """The value from this level on, where the function is what the next value is put into."""
            table = 0
            for bound in range(3):
                found = function // 2 ** bound % 2
                if level < 9:
                    found = rest(level + 1, inner[8 - level] // 8 ** found % 8)
                table += found * 2 ** bound
            return outer[level] // 2 ** table % 2

        self.same(derivation_value(deep, world, values), rest(0, inner[9]))

    def test_the_world_and_the_derivation_stay(self):
        world = {"n": 2, "s": 2}
        derivation = lift_over("n", "s")
        derivation_value(derivation, world, (0,))
        self.same(world, {"n": 2, "s": 2})
        self.same(derivation, lift_over("n", "s"))
