"""[30], [35]: a kind substituted for an atom in a derivation."""

import random

from tests.helper import Case, apply_over, apply_under, bush, comb, identity
from tests.worlds import grown
from wordfractions.cuts.substitute import substitute
from wordfractions.errors import FitError, SizeError
from wordfractions.kinds.shape import count_of, size_of, substitute_kind
from wordfractions.sequents.faults import count_steps, first_fault, walk_steps
from wordfractions.sequents.rules import make_axiom, make_step, sequent_of
from wordfractions.sequents.sequent import count_atoms

N, S = make_axiom("n"), make_axiom("s")
VP = (">", "n", "s")


def by_the_words(derivation, atom, kind):
    """What [35] says, step by step."""
    rule, _, goal, at, _, parts = derivation
    if rule == "axiom":
        return identity(kind) if goal == atom else derivation
    return make_step(rule, at, tuple(by_the_words(part, atom, kind) for part in parts))


class SubstituteTest(Case):

    def test_axioms(self):
        self.same(substitute(N, "n", "s"), S)
        self.same(substitute(N, "n", VP), identity(VP))
        self.same(substitute(N, "s", VP), N)
        self.same(substitute(N, "n", "n"), N)
        self.same(substitute(N, "n", ("/", "n", "n")), identity(("/", "n", "n")))

    def test_this_very_atom_only(self):
        both = make_step("pair right", 2, (make_step("pair right", 1, (N, make_axiom("n.1"))), make_axiom("n.2")))
        self.same(substitute(both, "n", VP), make_step("pair right", 2, (
            make_step("pair right", 1, (identity(VP), make_axiom("n.1"))), make_axiom("n.2"))))
        self.same(substitute(both, "n.1", VP), make_step("pair right", 2, (
            make_step("pair right", 1, (N, identity(VP))), make_axiom("n.2"))))
        self.same(substitute(both, "n.3", VP), both)
        self.same(substitute(both, "n.2", "n.1")[1], ("n", "n.1", "n.1"))

    def test_every_axiom(self):
        step = make_step("over left", 0, (apply_over("n", "n"), make_step("pair right", 1, (N, apply_under("n", "s")))))
        made = substitute(step, "n", VP)
        self.same(made, by_the_words(step, "n", VP))
        self.assertEqual([axiom[2] for _, axiom in walk_steps(made) if axiom[0] == "axiom"],
                         ["n", "s", "n", "s", "n", "s", "s", "n", "s"])

    def test_the_atom_itself_in_the_kind(self):
        step = apply_under("s", "n")
        kind = ("/", "n", ("*", "n", "s"))
        made = substitute(step, "n", kind)
        self.same(sequent_of(made), ((kind, (">", kind, "s")), "s"))
        self.assertIsNone(first_fault(made))

    def test_places_and_widths_stay(self):
        rng = random.Random(1)
        for derivation in grown(rng, 150, 5, atoms=("n", "s", "n.1")):
            for atom, kind in (("n", VP), ("n.1", ("*", "n", "n.1")), ("s", "s.7"), ("x", VP), ("s", ("/", "s", "s"))):
                made = substitute(derivation, atom, kind)
                self.assertEqual(made, by_the_words(derivation, atom, kind))
                self.assertIsNone(first_fault(made))
                self.assertEqual(sequent_of(made), (
                    tuple(substitute_kind(premise, atom, kind) for premise in derivation[1]),
                    substitute_kind(derivation[2], atom, kind)))
                steps = dict(walk_steps(made))
                for path, step in walk_steps(derivation):
                    if step[0] != "axiom":
                        self.assertEqual((steps[path][0], steps[path][3:5]), (step[0], step[3:5]))
                many = sum(count_of(premise, atom) for premise in derivation[1]) + count_of(derivation[2], atom)
                self.assertEqual(count_steps(made), count_steps(derivation) + many // 2 * 3 * (size_of(kind) - 1))

    def test_nothing_changes(self):
        for derivation in grown(random.Random(2), 40, 5):
            self.same(substitute(derivation, "x", comb(40)), derivation)
            self.same(substitute(derivation, "n.1", comb(40)), derivation)
            self.same(substitute(derivation, "n", "n"), derivation)

    def test_cuts(self):
        cut = make_step("cut", 0, (N, N))
        for derivation in (cut, make_step("under left", 1, (cut, S)), make_step("pair right", 1, (S, cut))):
            self.refuses(FitError, substitute, derivation, "n", VP)
            self.refuses(FitError, substitute, derivation, "x", VP)
            self.refuses(FitError, substitute, derivation, "n", comb(40))

    def test_forty_atoms(self):
        self.same(substitute(N, "n", comb(40)), identity(comb(40)))
        step = apply_under("s", "n")
        made = substitute(step, "n", bush(39))
        self.assertIsNone(first_fault(made))
        self.assertEqual(size_of(made[1][1]), 40)
        self.refuses(SizeError, substitute, step, "n", bush(40))
        twice = identity(("*", "n", "n"))
        self.assertIsNone(first_fault(substitute(twice, "n", bush(20))))
        self.refuses(SizeError, substitute, twice, "n", bush(21))

    def test_eighty_atoms(self):
        row = make_step("pair right", 1, (N, make_step("pair right", 1, (N, make_step("pair right", 1, (N, N))))))
        self.assertEqual(count_atoms(sequent_of(substitute(row, "n", bush(10)))), 80)
        self.refuses(SizeError, substitute, row, "n", bush(11))
        chain = N
        for _ in range(3):
            chain = make_step("over left", 0, (chain, N))
        self.assertEqual(count_atoms(sequent_of(substitute(chain, "n", bush(10)))), 80)
        # Kinds of 22 atoms, but 88 in all.
        self.refuses(SizeError, substitute, chain, "n", bush(11))
        mixed = make_step("pair right", 1, (S, chain))
        self.refuses(SizeError, substitute, mixed, "n", bush(10))
        self.assertIsNone(first_fault(substitute(mixed, "s", bush(36))))
        self.refuses(SizeError, substitute, mixed, "s", bush(37))

    def test_arguments_stay(self):
        step = apply_under("s", "n")
        substitute(step, "n", VP)
        self.same(step, apply_under("s", "n"))
