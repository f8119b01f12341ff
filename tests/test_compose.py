"""[30], [32], [33]: composing."""

import random

from tests.helper import Case, all_derivations, apply_over, apply_under, bush, comb, identity
from tests.worlds import Grower, grown, same_values, value_of
from wordfractions.cuts.compose import compose
from wordfractions.cuts.ways import apply_over as ready_over
from wordfractions.cuts.ways import lift_over
from wordfractions.errors import FitError, SizeError, WordsError
from wordfractions.kinds.shape import size_of
from wordfractions.search.count import count_derivations
from wordfractions.search.listing import derivations_of
from wordfractions.sequents.faults import count_steps, first_fault, walk_steps
from wordfractions.sequents.rows import format_derivation
from wordfractions.sequents.rules import make_axiom, make_step, sequent_of
from wordfractions.sequents.sequent import count_atoms
from wordfractions.sequents.text import parse_sequent

N, S = make_axiom("n"), make_axiom("s")
VP = (">", "n", "s")


def cut_of(first, second, at):
    """The cut as it stands, of any size."""
    premises = second[1][:at] + first[1] + second[1][at + 1:]
    return ("cut", premises, second[2], at, len(first[1]), (first, second))


class ComposeTest(Case):

    def judge(self, first, second, at, rng=None, most=6):
        made = compose(first, second, at)
        cut = cut_of(first, second, at)
        self.assertIsNone(first_fault(made))
        self.assertEqual(sequent_of(made), sequent_of(cut))
        self.assertEqual(count_steps(made), count_steps(first) + count_steps(second) - 3 * size_of(first[2]) + 2)
        if rng is not None:
            same_values(self, made, cut, rng, most)
        return made

    def test_interface_example(self):
        first, second = lift_over("n", "s"), ready_over("s", VP)
        self.same(format_derivation(compose(first, second, 0)),
                  "1 axiom 0 0 (): n => n\n2 axiom 0 0 (): s => s\n3 under left 1 1 (1 2): n, n > s => s")

    def test_axioms(self):
        step = apply_under("s", "n")
        self.same(compose(N, step, 0), step)
        self.same(compose(step, S, 0), step)
        self.same(compose(N, N, 0), N)

    def test_identities_change_nothing(self):
        for derivation in grown(random.Random(2), 60, 5):
            for at, kind in enumerate(derivation[1]):
                made = self.judge(identity(kind), derivation, at)
                self.assertEqual(count_steps(made), count_steps(derivation))
            self.judge(derivation, identity(derivation[2]), 0)

    def test_first_ends_with_each_left_rule(self):
        rng = random.Random(3)
        second = make_step("pair right", 1, (N, make_step("pair right", 2, (apply_under("s", "n"), S))))
        firsts = (
            apply_over("n", "s"), apply_under("n", "s"), make_step("pair left", 0, (apply_over("n", "s"),)),
            make_step("over left", 0, (apply_over("n", "s"), N)), make_step("under left", 2, (apply_over("n", "s"), N)),
            make_step("over left", 1, (S, apply_under("n", "s"))))
        for first in firsts:
            for at, kind in enumerate(second[1]):
                if kind == first[2]:
                    made = self.judge(first, second, at, rng)
                    self.assertEqual(made[0], first[0])
                    self.assertEqual(made[3], at + first[3])

    def test_second_ends_with_each_rule_that_does_not_make_the_premise(self):
        rng = random.Random(4)
        first = make_step("pair right", 2, (apply_over("n", "s"), S))
        pair = first[2]
        body = make_step("under left", 1, (identity(pair), S))
        for second in (
                make_step("over right", 0, (make_step("pair right", 2, (body, N)),)),
                make_step("under right", 0, (make_step("pair right", 1, (N, body)),)),
                make_step("pair right", 2, (body, N)), make_step("pair right", 1, (N, body)),
                make_step("over left", 0, (body, N)), make_step("over left", 0, (N, body)),
                make_step("over left", 1, (N, body)),
                make_step("under left", 2, (body, N)), make_step("under left", 1, (N, body)),
                make_step("under left", 2, (N, body)),
                make_step("pair left", 0, (make_step("pair right", 2, (apply_over("n", "s"), body)),)),
                make_step("pair left", 2, (make_step("pair right", 2, (body, apply_over("n", "s"))),)),
                make_step("over left", 0, (make_step("pair right", 1, (N, make_step("pair right", 2, (body, S)))), N)),
                make_step("under left", 4,
                          (make_step("pair right", 1, (N, make_step("pair right", 2, (body, S)))), N))):
            for at, kind in enumerate(second[1]):
                if kind == pair:
                    made = self.judge(first, second, at, rng)
                    # The pair right of `first` meets the pair left of the identity deep within.
                    self.assertEqual(made[0], second[0])

    def test_both_make_the_kind(self):
        rng = random.Random(5)
        right = make_step("over right", 0, (make_step("over left", 0, (apply_over("n", "s"), S)),))
        for argument in (S, apply_over("s", "n"), apply_under("s", ("*", "n", "n"))):
            second = make_step("over left", 0, (argument, apply_under("s", "n")))
            if second[1][0] == right[2]:
                self.judge(right, second, 0, rng)
        for first, sign in ((make_step("over right", 0, (apply_over("n", "s"),)), "/"),
                            (make_step("under right", 0, (apply_under("n", "s"),)), ">"),
                            (make_step("pair right", 2, (apply_over("n", "s"), apply_under("s", "n"))), "*")):
            for around in (S, apply_over("s", "n"), apply_under("s", "n")):
                ends = [identity(first[2])]
                if sign == "/":
                    for body in (apply_over("s", "n"), apply_under("n", "n")):
                        for at, kind in enumerate(body[1]):
                            if kind == "n":
                                ends.append(make_step("over left", at, (around, body)))
                if sign == ">":
                    for body in (apply_over("s", "n"), apply_under("n", "n")):
                        for at, kind in enumerate(body[1]):
                            if kind == "n":
                                ends.append(make_step("under left", at + len(around[1]), (around, body)))
                if sign == "*":
                    body = make_step("pair right", 1, (N, make_step("pair right", 1, (N, S))))
                    ends.append(make_step("pair left", 1, (body,)))
                for second in ends:
                    for at, kind in enumerate(second[1]):
                        if kind == first[2]:
                            self.judge(first, second, at, rng)

    def test_equal_kinds_at_other_places(self):
        three = make_step("pair right", 1, (N, make_step("pair right", 1, (N, N))))
        first = apply_over("n", "n")
        for at in range(3):
            made = self.judge(first, three, at, random.Random(6))
            wanted = [N, N, N]
            wanted[at] = first
            self.same(made[1], tuple(kind for part in wanted for kind in part[1]))
        over = ("/", "n", "n")
        second = make_step("over left", 0, (apply_over("n", "n"), N))
        self.assertEqual(second[1], (over, over, "n"))
        twice = make_step("over right", 0, (second,))
        for at in (0, 1):
            self.judge(twice, second, at, random.Random(7))

    def test_all_small_pairs(self):
        rng = random.Random(8)
        derived = all_derivations(("n",), 6)
        by_goal = {}
        for found in derived.values():
            for derivation in found:
                by_goal.setdefault(derivation[2], []).append(derivation)
        met = 0
        for found in derived.values():
            for second in found:
                for at, kind in enumerate(second[1]):
                    for first in rng.sample(by_goal.get(kind, []), min(2, len(by_goal.get(kind, [])))):
                        if met % 7 == 0:
                            same_values(self, self.judge(first, second, at), cut_of(first, second, at), rng, 4,
                                        worlds=({"n": 2}, {"n": 3}))
                        met += 1
        self.assertGreater(met, 1000)

    def test_by_chance(self):
        rng = random.Random(9)
        grower = Grower(rng)
        met = 0
        while met < 250:
            try:
                first = grower.derive(rng.randint(1, 4))
                cut = grower.cut(first, grower.derive(rng.randint(1, 4)))
            except WordsError:
                continue
            if not any(step[0] == "cut" for part in cut[5] for _, step in walk_steps(part)):
                self.judge(cut[5][0], cut[5][1], cut[3], rng)
                met += 1

    def test_the_value_is_that_of_the_cut(self):
        sequent = parse_sequent("s / (n > s), (n > s) / n, (s / n) > s => s")
        found = list(derivations_of(sequent))
        world, told = {"n": 2, "s": 2}, set()
        goal_body = make_step("pair right", 1, (S, N))
        body = make_step("pair right", 1, (N, S))
        for derivation in found:
            first = self.judge(derivation, goal_body, 0, random.Random(1))
            second = self.judge(derivation, body, 1, random.Random(1))
            values = [(value_of(first, world, (p, v, q, 1)), value_of(second, world, (1, p, v, q)))
                      for p in range(0, 16, 3) for v in range(0, 16, 3) for q in range(0, 16, 5)]
            self.assertEqual(count_derivations(sequent_of(first)) > 1, True)
            told.add(tuple(values))
        self.assertGreater(len(told), 1)

    def test_no_fit(self):
        step = apply_under("s", "n")
        for first, second, at in (
                (N, step, -1), (N, step, -2), (N, step, 2), (N, step, 10 ** 30), (N, step, -10 ** 30), (N, step, 1),
                (S, step, 0), (make_axiom("n.1"), step, 0), (step, step, 0), (identity(("*", "n", "s")), step, 0)):
            self.refuses(FitError, compose, first, second, at)

    def test_cuts(self):
        step = apply_under("s", "n")
        cut = make_step("cut", 0, (N, N))
        deep = make_step("under left", 1, (cut, S))
        self.refuses(FitError, compose, cut, step, 0)
        self.refuses(FitError, compose, N, deep, 0)
        self.refuses(FitError, compose, deep, S, 0)
        self.refuses(FitError, compose, N, make_step("cut", 0, (N, step)), 0)

    def row(self, many):
        """A derivation of so many premises n."""
        made = N
        for _ in range(many - 1):
            made = make_step("pair right", 1, (N, made))
        return made

    def chain(self, many):
        """A derivation of so many premises, with n as its goal."""
        made = N
        for _ in range(many - 1):
            made = make_step("over left", 0, (made, N))
        return made

    def test_bounds(self):
        row = self.row(20)
        self.judge(self.chain(21), row, 7)
        self.judge(self.chain(21), row, 0)
        self.refuses(SizeError, compose, self.chain(22), row, 7)
        self.refuses(SizeError, compose, self.chain(40), row, 7)
        # 40 premises, but fewer or more atoms than the bound.
        wide = make_step("pair right", 20, (row, identity(bush(20))))
        self.assertEqual(count_atoms(sequent_of(wide)), 80)
        self.judge(N, wide, 0)
        self.refuses(SizeError, compose, apply_over("n", "n"), wide, 0)
        self.refuses(SizeError, compose, apply_over("n", "n"), wide, 19)
        self.judge(identity(bush(20)), wide, 20)

    def test_no_fit_ahead_of_the_size(self):
        row = self.row(20)
        long = self.chain(22)
        self.refuses(SizeError, compose, long, row, 7)
        self.refuses(FitError, compose, long, row, 20)
        self.refuses(FitError, compose, long, row, -1)
        self.refuses(FitError, compose, long, make_step("pair right", 1, (S, row)), 0)
        self.refuses(FitError, compose, make_step("cut", 0, (long, N)), row, 7)
        self.refuses(FitError, compose, long, make_step("cut", 0, (N, row)), 7)

    def test_sequents_beyond_the_bounds_on_the_way(self):
        # A pair of a large kind, which follows from a small one, and of a
        # small kind, which follows from many: taking the second one first
        # leads to more than 80 atoms.
        lifted = N
        for _ in range(6):
            lifted = make_step("over right", 0, (make_step("under left", 1, (lifted, N)),))
        large = lifted[2]
        chain = self.chain(6)
        first = make_step("pair right", 1, (lifted, chain))
        body = make_step("pair right", 1, (identity(large), self.row(27)))
        second = make_step("pair left", 0, (body,))
        self.assertEqual(count_atoms(sequent_of(second)), 80)
        self.assertGreater(count_atoms((body[1][:1] + chain[1] + body[1][2:], body[2])), 80)
        made = self.judge(first, second, 0)
        self.assertEqual(count_atoms(sequent_of(made)), 78)

    def test_the_largest(self):
        for sign in "/>*":
            for left in (True, False):
                kind = comb(40, sign=sign, left=left)
                made = self.judge(identity(kind), identity(kind), 0)
                if sign != "*":
                    self.same(made, identity(kind))
        self.judge(self.chain(40), N, 0)

    def test_arguments_stay(self):
        first, second = lift_over("n", "s"), ready_over("s", VP)
        compose(first, second, 0)
        self.same((first, second), (lift_over("n", "s"), ready_over("s", VP)))
