"""[22], [25], [26], [29]: deciding."""

import random

from tests.helper import Case, all_derivations, bush, comb
from tests.test_last_steps import small_sequents
from tests.worlds import Grower
from wordfractions.errors import SequentError, SizeError, WordsError
from wordfractions.kinds.shape import size_of
from wordfractions.search.decide import decide, derivable
from wordfractions.sequents.faults import first_fault
from wordfractions.sequents.rules import make_axiom, sequent_of
from wordfractions.sequents.sequent import count_atoms
from wordfractions.sequents.tables import closes
from wordfractions.sequents.text import parse_sequent

VP = (">", "n", "s")
# Sequents with 24 atoms and very many sequents below them.
HARD = (
    "(n * (((n > n) * (n > n)) * (n * (n > (n > n))))) * ((n / n) * (n * (n > (n / n)))) =>"
    " ((n * (n > n)) * ((n / n) / n)) > ((n * n) / n)",
    "((n * (n > n)) * (((n > n) / n) * (n * n))) * (((n / n) * (n / n)) * n) =>"
    " (n / ((n * n) > n)) / ((n > ((n * n) > n)) * ((n / n) * n))",
    "((n / n) * (n * (n > n))) * ((((n / n) * n) * (n > n)) * (((n * n) > n) * (n > n))) =>"
    " ((((n / n) * ((n > n) / n)) * n) * (n > n)) > n",
)


class DecideTest(Case):

    def judge(self, sequent, wanted):
        """The certificate is one, of the wanted sort."""
        answer = decide(sequent)
        self.assertIsInstance(answer, tuple)
        self.assertEqual(len(answer), 2)
        status, certificate = answer
        self.assertEqual(status, "derived" if wanted else "refused")
        self.assertIs(derivable(sequent), wanted)
        plain = (tuple(sequent[0]), sequent[1])
        if wanted:
            self.assertIsNone(first_fault(certificate))
            self.assertEqual(sequent_of(certificate), plain)
        else:
            self.assertIsInstance(certificate, tuple)
            self.assertIs(closes(certificate, plain), True)
            for entry in certificate:
                self.assertLessEqual(count_atoms(entry), count_atoms(plain))
        return certificate

    def test_interface_examples(self):
        self.assertIs(derivable(parse_sequent("s / (n > s) => n")), False)
        self.same(decide(parse_sequent("n, n > s => s")), ("derived", (
            "under left", ("n", (">", "n", "s")), "s", 1, 1,
            (("axiom", ("n",), "n", 0, 0, ()), ("axiom", ("s",), "s", 0, 0, ())))))

    def test_axioms(self):
        for atom in ("n", "abcdefg8", "n.999999"):
            self.same(decide(((atom,), atom)), ("derived", make_axiom(atom)))
        self.judge((("n",), "n.1"), False)
        self.judge((("n.2",), "n.1"), False)

    def test_the_example_of_29(self):
        self.judge(parse_sequent("(n / n) / (n / n) => n / n"), False)
        self.judge(parse_sequent("(n / n) / (n / n), n => n"), False)
        self.judge(parse_sequent("n / n, n / n, n => n"), True)

    def test_balances_that_differ(self):
        for text in ("n => s", "n, n => n", "s / (n > s) => n", "n / s, n => n", "n * s => s * n"):
            self.judge(parse_sequent(text), False)

    def test_known_ones(self):
        for text, wanted in (
                ("n => s / (n > s)", True), ("n => (s / n) > s", True), ("s / (n > s) => n", False),
                ("a / b, b / c => a / c", True), ("b / c, a / b => a / c", False),
                ("a / (b * c) => (a / c) / b", True), ("a / (b * c) => (a / b) / c", False),
                ("(b * c) > a => c > (b > a)", True), ("(b * c) > a => b > (c > a)", False),
                ("(b > a) / c => b > (a / c)", True), ("a * (b * c) => (a * b) * c", True), ("a * b => b * a", False),
                ("a / b => (a / c) / (b / c)", True), ("(a / c) / (b / c) => a / b", False),
                ("n, (n > s) / n, n => s", True), ("n, n, (n > s) / n => s", False),
                ("(s / n.1) / (s / n.1), s / n.1, n.1 => s", True), ("s / n.1, n.2 => s", False),
                ("s / n, n / n, n, n > n => s", True), ("m => m * (n / n)", False)):
            self.judge(parse_sequent(text), wanted)

    def test_against_all_derivations_made_forwards(self):
        for atoms, most in ((("n",), 6), (("a", "b"), 4)):
            derived = all_derivations(atoms, most)
            for sequents in small_sequents(atoms, most):
                for sequent in sequents:
                    self.judge(sequent, sequent in derived)

    def test_larger_ones_that_have_derivations(self):
        rng = random.Random(5)
        met = 0
        while met < 60:
            try:
                derivation = Grower(rng, atoms=("n", "s", "n.1")).derive(rng.randint(6, 12))
            except WordsError:
                continue
            if len(derivation[1]) <= 12 and count_atoms(sequent_of(derivation)) <= 24:
                self.judge(sequent_of(derivation), True)
                met += 1

    def test_entries_can_be_asked_for(self):
        for text in ("(n > n) * (n / n), n => n", "(n / n) * ((n > n) > n) => n"):
            for entry in self.judge(parse_sequent(text), False):
                self.judge(entry, False)

    def test_lists(self):
        premises = ["n", VP]
        self.assertEqual(decide((premises, "s")), decide((("n", VP), "s")))
        self.assertEqual(premises, ["n", VP])
        self.judge((["n", VP], "s"), True)
        self.judge((["n", "n"], "s"), False)
        self.assertEqual(decide((["n > n"[0], (">", "n", "n")], "n"))[1][1], ("n", (">", "n", "n")))

    def test_wrong_sequents(self):
        for call in (decide, derivable):
            for wrong in (((), "n"), ([], "n"), ("n", "n"), ({"n": 1}, "n"), (("N",), "n"), (("n",), "n.0"),
                          (("n",), ("n",)), (None, "n"), (("n",), None), ((["/", "n", "n"],), "n"),
                          ((comb(41),), "n"), (("n",), comb(41)), (7, "n")):
                self.refuses(SequentError, call, wrong)

    def test_a_wrong_sequent_is_no_large_one(self):
        for call in (decide, derivable):
            self.refuses(SequentError, call, (("n",) * 12 + ("N",), "n"))
            self.refuses(SequentError, call, (("n",) * 45 + ("N",), "n"))
            self.refuses(SequentError, call, ((bush(30), "n."), "n"))
            self.refuses(SequentError, call, ((bush(30), "n"), 1))

    def test_bounds(self):
        for call in (decide, derivable):
            self.refuses(SizeError, call, (("n",) * 13, "n"))
            self.refuses(SizeError, call, (["n"] * 13, "n"))
            self.refuses(SizeError, call, (("n",) * 41, "n"))
            self.refuses(SizeError, call, ((bush(24),), "n"))
            self.refuses(SizeError, call, (("n",), bush(24)))
            self.refuses(SizeError, call, ((bush(12),) + ("n",) * 11, bush(2)))
            self.refuses(SizeError, call, ((bush(40),), bush(40)))
            self.refuses(SizeError, call, ((bush(40), bush(40)), "n"))
        self.judge((("n",) * 12, "n"), False)
        self.judge((("n",) * 12, bush(12)), True)
        self.judge((("n",) * 12, bush(11)), False)
        self.judge(((bush(12),), bush(12, sign="*")), True)
        self.judge(((comb(12),), comb(12)), True)
        self.judge(((bush(23),), "n"), False)
        self.judge(((comb(12),) + ("n",) * 11, "n"), True)

    def test_parts_may_have_more_premises(self):
        pairs = ("*", "n", ("*", "n", "n"))
        self.judge(((pairs,) * 4, bush(12)), True)
        self.judge((("n",) * 10 + (("*", "n", "n"),), comb(12, sign="*")), True)
        wide = (("*", "n", "n"),) + ("n",) * 11
        self.judge((wide, ("*", "n", "n")), False)
        self.judge((("n",) * 12, ("/", bush(5), "n")), False)

    def test_many_equal_premises(self):
        over, under = ("/", "n", "n"), (">", "n", "n")
        for premises, goal, wanted in (
                ((over,) * 11 + ("n",), "n", True), (("n",) + (under,) * 11, "n", True),
                ((over,) * 5 + ("n",) + (under,) * 6, "n", True), ((over,) * 11, over, True),
                ((over,) * 5 + (under,) * 6, over, False), ((under,) * 5 + ("n",) + (over,) * 6, "n", False),
                ((over, under) * 5 + (over,), under, False), ((("*", "n", over),) * 6, comb(6, sign="*"), False),
                ((("*", over, "n"),) * 6, comb(6, sign="*"), True),
                ((("*", "n", under),) * 6, comb(6, sign="*", left=False), True)):
            self.assertLessEqual(sum(size_of(kind) for kind in premises) + size_of(goal), 24)
            self.judge((premises, goal), wanted)

    def test_hard_ones(self):
        for text, wanted in zip(HARD, (True, True, False)):
            sequent = parse_sequent(text)
            self.assertEqual(count_atoms(sequent), 24)
            self.assertIs(derivable(sequent), wanted)

    def test_the_same_answer_again(self):
        sequent = parse_sequent("n / n, n / n, n => n")
        self.judge(sequent, True)
        self.judge(parse_sequent("n / n => n > n"), False)
        self.judge(sequent, True)
