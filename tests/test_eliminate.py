"""[30], [34], [44]: cuts taken out."""

import random

from tests.helper import Case, apply_over, apply_under, comb, identity
from tests.test_derivation_rows import chain
from tests.worlds import grown, same_values, value_of
from wordfractions.cuts.eliminate import eliminate_cuts
from wordfractions.search.listing import derivations_of
from wordfractions.sequents.faults import count_steps, first_fault, is_cut_free
from wordfractions.sequents.rules import make_axiom, make_step, sequent_of
from wordfractions.sequents.sequent import count_atoms, count_signs
from wordfractions.sequents.text import parse_sequent

N, S = make_axiom("n"), make_axiom("s")
VP = (">", "n", "s")


class EliminateTest(Case):

    def judge(self, derivation, rng=None):
        made = eliminate_cuts(derivation)
        sequent = sequent_of(derivation)
        self.assertIsNone(first_fault(made))
        self.assertEqual(sequent_of(made), sequent)
        self.assertEqual(count_steps(made), count_signs(sequent) + count_atoms(sequent) // 2)
        if rng is not None:
            same_values(self, derivation, made, rng)
        return made

    def test_no_cut(self):
        for derivation in (N, identity(("/", VP, "n")), apply_under("s", "n"), identity(comb(40))):
            self.same(self.judge(derivation), derivation)

    def test_one_cut(self):
        self.same(self.judge(make_step("cut", 0, (N, N))), N)
        for kind in ("n", VP, ("/", VP, "n"), ("*", VP, ("/", "n", "s"))):
            cut = make_step("cut", 0, (identity(kind), identity(kind)))
            self.judge(cut, random.Random(1))

    def test_a_cut_in_each_part(self):
        cut = make_step("cut", 0, (N, N))
        step = make_step("under left", 1, (cut, S))
        self.same(self.judge(step), apply_under("s", "n"))
        cut = make_step("cut", 0, (S, S))
        self.same(self.judge(make_step("under left", 1, (N, cut))), apply_under("s", "n"))
        both = make_step("pair right", 1, (cut, cut))
        self.same(self.judge(both), make_step("pair right", 1, (S, S)))
        self.same(self.judge(make_step("pair left", 0, (both,))), identity(("*", "s", "s")))

    def test_a_cut_within_a_cut(self):
        raised = make_step("over right", 0, (apply_under("s", "n"),))
        lowered = apply_over("s", VP)
        cut = make_step("cut", 0, (raised, lowered))
        self.assertEqual(sequent_of(cut), (("n", VP), "s"))
        self.same(self.judge(cut), apply_under("s", "n"))
        for wide in (make_step("cut", 0, (cut, S)), make_step("cut", 0, (make_step("cut", 0, (N, N)), cut)),
                     make_step("cut", 1, (identity(VP), cut)),
                     make_step("cut", 0, (raised, make_step("cut", 1, (identity(VP), lowered)))),
                     make_step("cut", 0, (make_step("cut", 0, (identity("n"), raised)), lowered))):
            self.same(self.judge(wide), apply_under("s", "n"))

    def test_many_cuts(self):
        self.same(self.judge(chain(199)), N)
        deep = apply_under("s", "n")
        for _ in range(60):
            deep = make_step("cut", 0, (deep, S))
        self.same(self.judge(deep), apply_under("s", "n"))
        deep = identity(VP)
        for _ in range(20):
            deep = make_step("cut", 0, (deep, identity(VP)))
        self.same(self.judge(deep, random.Random(2)), identity(VP))

    def test_the_value_stays(self):
        """Where another derivation of the sequent has another value."""
        sequent = parse_sequent("s / (n > s), (n > s) / n, (s / n) > s => s")
        told = set()
        world = {"n": 2, "s": 2}
        for derivation in derivations_of(sequent):
            for cut in (make_step("cut", 0, (derivation, S)), make_step("cut", 1, (identity(sequent[0][1]), derivation)),
                        make_step("cut", 2, (identity(sequent[0][2]), derivation)),
                        make_step("cut", 0, (identity(sequent[0][0]), make_step("cut", 0, (derivation, S))))):
                made = self.judge(cut, random.Random(3))
                told.add(tuple(value_of(made, world, (p, v, q)) for p in range(0, 16, 3) for v in range(0, 16, 2)
                               for q in range(0, 16, 5)))
        self.assertGreater(len(told), 1)

    def test_by_chance(self):
        rng = random.Random(4)
        cuts = 0
        for derivation in grown(rng, 250, 7, cuts=True):
            self.judge(derivation, rng)
            cuts += not is_cut_free(derivation)
        self.assertGreater(cuts, 60)

    def test_arguments_stay(self):
        cut = make_step("cut", 0, (identity(VP), identity(VP)))
        before = repr(cut)
        eliminate_cuts(cut)
        self.assertEqual(repr(cut), before)
