"""[46], [47]: numbered derivations."""

import random

from tests.helper import Case, apply_over, apply_under, comb, identity
from tests.worlds import WORLDS, choices, grown, largest_count, value_of
from wordfractions.errors import FitError
from wordfractions.kinds.shape import atoms_of
from wordfractions.middles.numbers import number_axioms, unnumber, unnumber_kind
from wordfractions.search.decide import decide
from wordfractions.sequents.faults import first_fault, walk_steps
from wordfractions.sequents.rules import make_axiom, make_step, sequent_of
from wordfractions.sequents.text import format_sequent, parse_sequent

N, S = make_axiom("n"), make_axiom("s")
VP = (">", "n", "s")


class NumberTest(Case):

    def test_interface_example(self):
        _, derivation = decide(parse_sequent("n, (n > s) / n, n => s"))
        self.same(format_sequent(sequent_of(number_axioms(derivation))), "n.2, (n.2 > s.3) / n.1, n.1 => s.3")

    def test_axioms(self):
        self.same(number_axioms(N), ("axiom", ("n.1",), "n.1", 0, 0, ()))
        self.same(number_axioms(make_axiom("n2")), make_axiom("n2.1"))

    def test_each_rule(self):
        for step, wanted in (
                (apply_over("s", "n"), "s.2 / n.1, n.1 => s.2"), (apply_under("s", "n"), "n.1, n.1 > s.2 => s.2"),
                (make_step("pair right", 1, (N, N)), "n.1, n.2 => n.1 * n.2"),
                (identity(("/", "s", "n")), "s.2 / n.1 => s.2 / n.1"), (identity(VP), "n.1 > s.2 => n.1 > s.2"),
                (identity(("*", "n", "n")), "n.1 * n.2 => n.1 * n.2"),
                (identity(("/", "n", "n")), "n.2 / n.1 => n.2 / n.1"),
                (make_step("over right", 0, (apply_under("s", "n"),)), "n.1 => s.2 / (n.1 > s.2)")):
            made = number_axioms(step)
            self.same(format_sequent(sequent_of(made)), wanted)
            self.assertIsNone(first_fault(made))

    def test_the_axioms_are_counted_as_they_are_walked(self):
        for derivation in grown(random.Random(1), 150, 8):
            made = number_axioms(derivation)
            self.assertIsNone(first_fault(made))
            steps, others = list(walk_steps(derivation)), list(walk_steps(made))
            self.assertEqual([path for path, _ in steps], [path for path, _ in others])
            for (_, step), (_, other) in zip(steps, others):
                self.assertEqual((step[0], step[3:5]), (other[0], other[3:5]))
            axioms = [step[2] for _, step in steps if step[0] == "axiom"]
            self.assertEqual([step[2] for _, step in others if step[0] == "axiom"],
                             [f"{atom}.{count}" for count, atom in enumerate(axioms, start=1)])
            self.same(unnumber(made), derivation)

    def test_every_atom_twice(self):
        for derivation in grown(random.Random(2), 150, 8):
            premises, goal = sequent_of(number_axioms(derivation))
            atoms = [atom for kind in premises + (goal,) for atom in atoms_of(kind)]
            self.assertEqual({atoms.count(atom) for atom in atoms}, {2})
            self.assertEqual(len(set(atoms)), sum(step[0] == "axiom" for _, step in walk_steps(derivation)))

    def test_the_value_stays(self):
        rng = random.Random(3)
        for derivation in grown(rng, 60, 5):
            made = number_axioms(derivation)
            for world in WORLDS:
                if largest_count(derivation, world) <= 2000:
                    for values in choices(derivation[1], world, rng, 3):
                        self.assertEqual(value_of(made, world, values), value_of(derivation, world, values))

    def test_cuts(self):
        cut = make_step("cut", 0, (N, N))
        for derivation in (cut, make_step("under left", 1, (cut, S)), make_step("pair right", 1, (S, cut))):
            self.refuses(FitError, number_axioms, derivation)

    def test_numbered_atoms(self):
        one = make_axiom("n.1")
        for derivation in (one, make_step("under left", 1, (one, S)), make_step("under left", 1, (N, make_axiom("s.9"))),
                           make_step("pair right", 1, (N, make_step("pair right", 1, (S, one)))),
                           identity(("/", "s", ("*", "n", "s.3"))), apply_over("n.4", "n"), number_axioms(N)):
            self.refuses(FitError, number_axioms, derivation)

    def test_the_largest(self):
        for kind in (comb(40), comb(40, left=False, sign=">"), comb(40, sign="*")):
            made = number_axioms(identity(kind))
            self.assertIsNone(first_fault(made))
            self.assertEqual(len(set(atoms_of(made[2]))), 40)
            self.same(unnumber(made), identity(kind))

    def test_arguments_stay(self):
        step = apply_under("s", "n")
        number_axioms(step)
        self.same(step, apply_under("s", "n"))


class UnnumberTest(Case):

    def test_kinds(self):
        for kind, wanted in (
                ("n", "n"), ("n.999999", "n"), ("n2.2", "n2"), (("/", "n.1", "n.2"), ("/", "n", "n")),
                ((">", ("*", "a.1", "b"), "c.3"), (">", ("*", "a", "b"), "c")), (comb(40, atom="n.7"), comb(40)),
                (VP, VP)):
            self.same(unnumber_kind(kind), wanted)

    def test_derivations(self):
        step = make_step("under left", 1, (make_axiom("n.1"), identity(("/", "s.2", "n"))))
        self.same(unnumber(step), make_step("under left", 1, (N, identity(("/", "s", "n")))))
        self.same(unnumber(apply_over("n.1", "n.2")), apply_over("n", "n"))

    def test_without_numbers_nothing_changes(self):
        for derivation in grown(random.Random(4), 60, 6, cuts=True):
            self.same(unnumber(derivation), derivation)

    def test_cuts(self):
        one = make_axiom("n.1")
        cut = make_step("cut", 0, (one, one))
        self.same(unnumber(cut), make_step("cut", 0, (N, N)))
        whole = make_step("cut", 1, (one, make_step("pair right", 1, (make_axiom("s.4"), cut))))
        self.same(unnumber(whole), make_step("cut", 1, (N, make_step(
            "pair right", 1, (S, make_step("cut", 0, (N, N)))))))
        for derivation in grown(random.Random(5), 80, 6, atoms=("n.1", "n.2", "s"), cuts=True):
            made = unnumber(derivation)
            self.assertIsNone(first_fault(made, allow_cuts=True))
            self.assertEqual(sequent_of(made), (tuple(unnumber_kind(kind) for kind in derivation[1]),
                                                unnumber_kind(derivation[2])))
            for (path, step), (other_path, other) in zip(walk_steps(derivation), walk_steps(made)):
                self.assertEqual((path, step[0], step[3:5]), (other_path, other[0], other[3:5]))
