"""[17], [18]: the last steps of sequents."""

import itertools

from tests.helper import Case, derivations, stub
from wordfractions.errors import FitError
from wordfractions.kinds.order import kinds_up_to
from wordfractions.kinds.shape import size_of
from wordfractions.sequents.faults import count_steps, first_fault
from wordfractions.sequents.rules import RULES, make_step, sequent_of
from wordfractions.sequents.sequent import count_atoms, count_signs
from wordfractions.sequents.steps import last_steps

A, B, C = "a", "b", "c"
OVER, UNDER, PAIR = ("/", A, B), (">", B, A), ("*", A, B)


def small_sequents(atoms, most):
    """All sequents over the atoms with at most so many atoms, in lists by their number."""
    kinds = [[]] + [[kind for kind in kinds_up_to(atoms, most - 1) if size_of(kind) == size]
                    for size in range(1, most)]
    rows = [[()]]
    for size in range(1, most):
        rows.append([(kind,) + row for ahead in range(1, size + 1) for kind in kinds[ahead]
                     for row in rows[size - ahead]])
    return [[(row, goal) for ahead in range(1, size) for row in rows[ahead] for goal in kinds[size - ahead]]
            for size in range(most + 1)]


class LastStepsTest(Case):

    def test_interface_example(self):
        self.same(last_steps((("n", (">", "n", "s")), "s")), (("under left", 1, 1, ((("n",), "n"), (("s",), "s"))),))

    def test_axioms(self):
        axiom = ("axiom", 0, 0, ())
        self.same(last_steps((("n",), "n")), (axiom,))
        self.same(last_steps((("n.1",), "n.1")), (axiom,))

    def test_none(self):
        for sequent in ((("n",), "s"), (("n",), "n.1"), (("n.1",), "n"), (("n.1",), "n.2"), (("n", "n"), "n"),
                        ((("/", "n", "n"),), "n"), (((">", "n", "n"), "n"), "n"), (("n",), ("*", "n", "n"))):
            self.same(last_steps(sequent), ())

    def test_goals(self):
        self.same(last_steps(((A, C), OVER)), (("over right", 0, 0, (((A, C, B), A),)),))
        self.same(last_steps(((A, C), UNDER)), (("under right", 0, 0, (((B, A, C), A),)),))
        self.same(last_steps(((A, B, C), PAIR)), (
            ("pair right", 1, 0, (((A,), A), ((B, C), B))),
            ("pair right", 2, 0, (((A, B), A), ((C,), B))),
        ))
        self.same(last_steps(((A,), PAIR)), ())

    def test_premises(self):
        self.same(last_steps(((C, OVER, "x", "y"), "g")), (
            ("over left", 1, 1, ((("x",), B), ((C, A, "y"), "g"))),
            ("over left", 1, 2, ((("x", "y"), B), ((C, A), "g"))),
        ))
        self.same(last_steps((("x", "y", UNDER, C), "g")), (
            ("under left", 2, 1, ((("y",), B), (("x", A, C), "g"))),
            ("under left", 2, 2, ((("x", "y"), B), ((A, C), "g"))),
        ))
        self.same(last_steps((("x", PAIR, C), "g")), (("pair left", 1, 0, ((("x", A, B, C), "g"),)),))

    def test_the_whole_order(self):
        premises = (PAIR, UNDER, OVER, C)
        goal = ("*", "g", "h")
        self.same([step[:3] for step in last_steps((premises, goal))], [
            ("pair right", 1, 0), ("pair right", 2, 0), ("pair right", 3, 0),
            ("pair left", 0, 0), ("under left", 1, 1), ("over left", 2, 1),
        ])
        self.same([step[:3] for step in last_steps(((OVER, OVER, UNDER, UNDER), OVER))], [
            ("over right", 0, 0),
            ("over left", 0, 1), ("over left", 0, 2), ("over left", 0, 3), ("over left", 1, 1), ("over left", 1, 2),
            ("under left", 2, 1), ("under left", 2, 2), ("under left", 3, 1), ("under left", 3, 2),
            ("under left", 3, 3),
        ])

    def test_no_bound_is_checked(self):
        premises = (("*", "n", "n"),) + ("n",) * 39
        self.same(last_steps((premises, "n")), (("pair left", 0, 0, ((("n",) * 41, "n"),)),))
        premises = ("n",) * 40
        self.same(last_steps((premises, OVER)), (("over right", 0, 0, ((premises + (B,), A),)),))
        many = last_steps((premises + (("/", "n", "n"),) * 2, "n"))
        self.same(many, (("over left", 40, 1, (((("/", "n", "n"),), "n"), (premises + ("n",), "n"))),))

    def test_a_list_of_all_steps_made_forwards(self):
        for atoms, most in ((("n",), 6), (("a", "b"), 4)):
            by_size = small_sequents(atoms, most)
            wanted = {}
            for rule, many in ((rule, 1 if rule in ("over right", "under right", "pair left") else 2)
                               for rule in RULES[1:-1]):
                for sizes in itertools.product(range(2, most + 1), repeat=many):
                    if sum(sizes) > most:
                        continue
                    for parts in itertools.product(*[by_size[size] for size in sizes]):
                        self.make_all(rule, parts, wanted)
            for sequents in by_size:
                for sequent in sequents:
                    steps = [step for step in last_steps(sequent) if step[0] != "axiom"]
                    self.assertEqual(len(set(steps)), len(steps))
                    self.assertEqual(set(steps), wanted.get(sequent, set()), sequent)
                    self.assertLessEqual(len(steps), len(sequent[0]) ** 2 + 1)

    def make_all(self, rule, parts, wanted):
        stubs = tuple(stub(premises, goal) for premises, goal in parts)
        for at in range(sum(len(premises) for premises, _ in parts) + 1):
            try:
                step = make_step(rule, at, stubs)
            except FitError:
                continue
            wanted.setdefault(sequent_of(step), set()).add((rule, at, step[4], parts))

    def test_steps_of_derivations(self):
        found = 0
        for sequents in small_sequents(("n",), 6):
            for sequent in sequents:
                for derivation in derivations(sequent):
                    found += 1
                    self.assertIs(first_fault(derivation), None)
                    self.assertEqual(count_steps(derivation), count_signs(sequent) + count_atoms(sequent) // 2)
                    self.assertLessEqual(2 * len(sequent[0]), count_atoms(sequent))
        self.assertGreater(found, 100)
