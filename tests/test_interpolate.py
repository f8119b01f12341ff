"""[47] to [50]: interpolants."""

import collections
import random

from tests.helper import Case, all_derivations, apply_over, apply_under, bush, comb, identity
from tests.worlds import grown, same_values
from wordfractions.errors import FitError
from wordfractions.kinds.balance import Balance, multiply
from wordfractions.kinds.shape import atoms_of, size_of
from wordfractions.middles.interpolate import interpolate
from wordfractions.middles.numbers import number_axioms
from wordfractions.search.decide import decide
from wordfractions.search.listing import derivations_of
from wordfractions.sequents.faults import first_fault, walk_steps
from wordfractions.sequents.rules import make_axiom, make_step, sequent_of
from wordfractions.sequents.text import parse_sequent

N, S = make_axiom("n"), make_axiom("s")
VP = (">", "n", "s")


def counted(kinds):
    return collections.Counter(atom for kind in kinds for atom in atoms_of(kind))


class InterpolateTest(Case):

    def judge(self, derivation, start, stop, rng=None):
        """What [48] asks for."""
        premises, goal = sequent_of(derivation)
        answer = interpolate(derivation, start, stop)
        self.assertIsInstance(answer, tuple)
        kind, inner, outer = answer
        self.assertIsNone(first_fault(inner))
        self.assertIsNone(first_fault(outer))
        self.assertEqual(sequent_of(inner), (premises[start:stop], kind))
        self.assertEqual(sequent_of(outer), (premises[:start] + (kind,) + premises[stop:], goal))
        within = counted(premises[start:stop])
        rest = counted(premises[:start] + premises[stop:] + (goal,))
        atoms = counted((kind,))
        self.assertFalse(atoms - within)
        self.assertFalse(atoms - rest)
        self.assertLessEqual(size_of(kind), 40)
        if rng is not None:
            same_values(self, make_step("cut", start, (inner, outer)), derivation, rng, most=4)
        return kind, inner, outer

    def judge_all(self, derivation, rng=None):
        many = len(derivation[1])
        return {(start, stop): self.judge(derivation, start, stop, rng)
                for start in range(many) for stop in range(start + 1, many + 1)}

    def test_examples_of_50(self):
        for text, start, stop, wanted in (("n, (n > s) / n, n => s", 0, 2, ("/", "s", "n")),
                                          ("s / ((y * z) / z), y => s", 0, 1, ("/", "s", "y"))):
            _, derivation = decide(parse_sequent(text))
            kind, _, _ = self.judge(derivation, start, stop, random.Random(1))
            self.same(kind, wanted)

    def test_axioms(self):
        self.same(interpolate(N, 0, 1), ("n", N, N))
        self.same(interpolate(make_axiom("n.5"), 0, 1), ("n.5", make_axiom("n.5"), make_axiom("n.5")))

    def row(self, derivation):
        """Every stretch of the derivation, plain and numbered, with its value."""
        rng = random.Random(2)
        found = self.judge_all(derivation, rng)
        numbered = number_axioms(derivation)
        for (start, stop), (kind, inner, outer) in self.judge_all(numbered).items():
            letters = multiply(*[Balance.of(premise) for premise in numbered[1][start:stop]])
            self.assertEqual(size_of(kind), len(letters))
            self.assertEqual(Balance.of(kind), letters)
            for sequent in (sequent_of(inner), sequent_of(outer)):
                self.assertEqual(set(counted(sequent[0] + (sequent[1],)).values()), {2})
        return found

    def test_rows_with_one_part(self):
        body = make_step("pair right", 2, (apply_over("s", "n"), make_step("pair right", 1, (N, apply_under("n", "s")))))
        self.row(make_step("over right", 0, (body,)))
        self.row(make_step("under right", 0, (body,)))
        for at in range(len(body[1]) - 1):
            self.row(make_step("pair left", at, (body,)))

    def test_pair_right(self):
        for first in (N, apply_over("s", "n"), make_step("pair right", 1, (N, apply_under("s", "n")))):
            for second in (S, apply_under("n", "s"), make_step("pair right", 2, (apply_over("n", "n"), S))):
                self.row(make_step("pair right", len(first[1]), (first, second)))

    def three(self, goal="n"):
        """Three premises, with an atom as the goal."""
        last = make_axiom(goal)
        return make_step("over left", 0, (N, make_step("under left", 1, (S, last))))

    def test_over_left_and_under_left(self):
        body = make_step("pair right", 1, (S, make_step("pair right", 3, (self.three(), S))))
        self.assertEqual(len(body[1]), 5)
        long = make_step("pair right", 1, (S, make_step("pair right", 1, (N, make_step("pair right", 1, (S, N))))))
        for argument in (N, apply_over("s", "n"), self.three("s"), long):
            for at in range(5):
                self.row(make_step("over left", at, (argument, body)))
                self.row(make_step("under left", at + len(argument[1]), (argument, body)))

    def test_the_four_last_cases(self):
        """Each with an empty and with a longer beginning or rest of D."""
        argument = make_step("pair right", 1, (N, make_step("pair right", 1, (S, N))))
        body = make_step("pair right", 1, (S, make_step("pair right", 1, (make_axiom("m"), S))))
        goal = argument[2]
        over = make_step("over left", 1, (argument, body))
        self.assertEqual(over[1], ("s", ("/", "m", goal), "n", "s", "n", "s"))
        rest = ("*", "s", "n")
        found = self.row(over)
        for (start, stop), wanted in (
                ((1, 2), ("/", "m", goal)), ((1, 3), ("/", "m", rest)), ((1, 4), ("/", "m", "n")),
                ((0, 2), ("/", ("*", "s", "m"), goal)), ((0, 4), ("/", ("*", "s", "m"), "n")),
                ((2, 6), ("*", goal, "s")), ((3, 6), ("*", rest, "s")), ((4, 6), ("*", "n", "s")), ((3, 5), rest)):
            self.same(found[start, stop][0], wanted)
        under = make_step("under left", 4, (argument, body))
        self.assertEqual(under[1], ("s", "n", "s", "n", (">", goal, "m"), "s"))
        found = self.row(under)
        for (start, stop), wanted in (
                ((4, 5), (">", goal, "m")), ((3, 5), (">", ("*", "n", "s"), "m")), ((2, 5), (">", "n", "m")),
                ((4, 6), (">", goal, ("*", "m", "s"))), ((2, 6), (">", "n", ("*", "m", "s"))),
                ((0, 4), ("*", "s", goal)), ((0, 3), ("*", "s", ("*", "n", "s"))), ((0, 2), ("*", "s", "n"))):
            self.same(found[start, stop][0], wanted)

    def test_all_small_derivations(self):
        rng = random.Random(3)
        for derivations in all_derivations(("n",), 6).values():
            for derivation in derivations:
                if rng.random() < 0.15:
                    self.row(derivation)

    def test_by_chance(self):
        rng = random.Random(4)
        for derivation in grown(rng, 120, 7):
            self.row(derivation)
        for derivation in grown(rng, 60, 8, atoms=("n", "n.1", "n.2", "s")):
            self.judge_all(derivation, rng)

    def test_other_values(self):
        rng = random.Random(5)
        for derivation in derivations_of(parse_sequent("s / (n > s), (n > s) / n, (s / n) > s => s")):
            self.judge_all(derivation, rng)
        for derivation in derivations_of(parse_sequent("n / n, n / n, n, n > n => n")):
            self.judge_all(derivation, rng)

    def test_unlike_atoms_of_one_base(self):
        step = make_step("pair right", 1, (make_axiom("n.1"), make_step("pair right", 1, (N, make_axiom("n.2")))))
        self.same(self.judge(step, 0, 2)[0], ("*", "n.1", "n"))
        self.same(self.judge(step, 1, 3)[0], ("*", "n", "n.2"))

    def test_the_whole_stretch(self):
        for derivation in grown(random.Random(6), 60, 6):
            kind, _, outer = self.judge(derivation, 0, len(derivation[1]))
            self.assertEqual(outer[1], (kind,))

    def test_the_largest(self):
        long = N
        for _ in range(39):
            long = make_step("over left", 0, (long, N))
        row = N
        for _ in range(39):
            row = make_step("pair right", 1, (N, row))
        left = N
        for _ in range(39):
            left = make_step("pair right", len(left[1]), (left, N))
        for derivation in (long, row, left):
            self.assertEqual(len(derivation[1]), 40)
            for start in range(0, 40, 3):
                for stop in (start + 1, (start + 41) // 2, 40):
                    self.judge(derivation, start, stop)
                    self.judge(number_axioms(derivation), start, stop)
        for kind in [comb(40, sign=sign, left=way) for sign in "/>*" for way in (True, False)] + [bush(40)]:
            self.judge(identity(kind), 0, 1)
            self.judge(number_axioms(identity(kind)), 0, 1)

    def test_cuts(self):
        cut = make_step("cut", 0, (apply_over("n", "s"), N))
        for derivation in (cut, make_step("pair right", 1, (N, cut)), make_step("over left", 0, (cut, S))):
            self.refuses(FitError, interpolate, derivation, 0, 1)
            self.refuses(FitError, interpolate, derivation, 1, 1)
        self.assertTrue([step for _, step in walk_steps(cut) if step[0] == "cut"])

    def test_wrong_places(self):
        derivation = apply_under("s", "n")
        huge = 10 ** 30
        for start, stop in ((0, 0), (1, 1), (2, 2), (1, 0), (2, 0), (2, 1), (-1, 1), (-1, 2), (-2, -1), (0, -1), (0, 3),
                            (1, 3), (2, 3), (3, 4), (-1, 0), (0, huge), (-huge, 1), (huge, huge + 1), (-1, -1)):
            self.refuses(FitError, interpolate, derivation, start, stop)
        for start, stop in ((0, 1), (1, 2), (0, 2)):
            self.judge(derivation, start, stop)

    def test_arguments_stay(self):
        derivation = apply_under("s", VP)
        interpolate(derivation, 0, 1)
        self.same(derivation, apply_under("s", VP))
