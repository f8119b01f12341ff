"""[26], [28], [29]: the order of derivations, and their indexes."""

import itertools
import random

from tests.helper import Case, all_derivations, bush, comb, identity, order_key, stub
from tests.test_decide import HARD
from tests.worlds import grown
from wordfractions.errors import FitError, SequentError, SizeError
from wordfractions.search.count import count_derivations
from wordfractions.search.listing import derivation_at, derivations_of, index_of
from wordfractions.sequents.faults import first_fault
from wordfractions.sequents.rules import make_axiom, make_step, sequent_of
from wordfractions.sequents.sequent import count_atoms
from wordfractions.sequents.text import parse_sequent

OVER, UNDER = ("/", "n", "n"), (">", "n", "n")
TEXTS = (
    "n => n", "n / n, n / n, n => n", "n / n, n / n, n, n > n => n", "(n / n) * (n / n), n, n > n => n",
    "n * n, n * n => n * (n * (n * n))", "n / n, n / n, n / n => n / n", "n / (n / n), n / n, n > n => n",
    "n / n, n / n, n, n > n, n > n => n", "s / (n > s), (n > s) / n, (s / n) > s => s",
    "n / n, n, n / n, n => n * n", "n / n, n, n > n, n / n, n, n > n => n * n",
)


class ListingTest(Case):

    def test_interface_example(self):
        sequent = parse_sequent("n / n, n / n, n => n")
        derivation = derivation_at(sequent, 1)
        self.same((derivation[0], derivation[3], derivation[4], index_of(derivation)), ("over left", 1, 1, 1))

    def test_the_example_of_29(self):
        first, second = derivations_of(parse_sequent("n / n, n / n, n => n"))
        self.same((first[0], first[3], first[4]), ("over left", 0, 2))
        self.same((second[0], second[3], second[4]), ("over left", 1, 1))

    def test_axioms(self):
        for atom in ("n", "n.3"):
            self.same(list(derivations_of(((atom,), atom))), [make_axiom(atom)])
            self.same(derivation_at(((atom,), atom), 0), make_axiom(atom))
            self.same(index_of(make_axiom(atom)), 0)

    def test_all_small_ones(self):
        for atoms, most in ((("n",), 6), (("a", "b"), 4)):
            for sequent, derived in all_derivations(atoms, most).items():
                wanted = sorted(derived, key=order_key)
                self.assertEqual(list(derivations_of(sequent)), wanted)
                for index, derivation in enumerate(wanted):
                    self.assertEqual(derivation_at(sequent, index), derivation)
                    self.assertEqual(index_of(derivation), index)

    def test_order_and_indexes_of_larger_ones(self):
        many = 0
        for text in TEXTS:
            sequent = parse_sequent(text)
            found = list(derivations_of(sequent))
            self.assertEqual(len(found), count_derivations(sequent))
            keys = [order_key(derivation) for derivation in found]
            self.assertEqual(sorted(set(keys)), keys)
            for index, derivation in enumerate(found):
                self.assertIsNone(first_fault(derivation))
                self.assertEqual(sequent_of(derivation), sequent)
                self.assertEqual(index_of(derivation), index)
                self.same(derivation_at(sequent, index), derivation)
            many += len(found)
        self.assertGreater(many, 100)

    def test_two_parts_with_several_derivations_each(self):
        sequent = parse_sequent("n / n, n, n > n, n / n, n / n, n / n, n => n * n")
        found = list(derivations_of(sequent))
        split = [derivation for derivation in found if derivation[0] == "pair right" and derivation[3] == 3]
        self.assertEqual(len(split), 4 * 5)
        firsts = [derivation[5][0] for derivation in split]
        seconds = [derivation[5][1] for derivation in split]
        self.assertEqual(firsts, [firsts[place] for place in (0, 5, 10, 15) for _ in range(5)])
        self.assertEqual(seconds, seconds[:5] * 4)
        self.assertEqual((len(set(firsts)), len(set(seconds))), (4, 5))

    def test_wrong_indexes(self):
        sequent = parse_sequent("n / n, n / n, n => n")
        for index in (-1, -2, -10 ** 30, 2, 3, 10 ** 30):
            self.refuses(FitError, derivation_at, sequent, index)
        self.refuses(FitError, derivation_at, parse_sequent("n => s"), 0)
        self.refuses(FitError, derivation_at, parse_sequent("n / n => n > n"), 0)
        self.refuses(FitError, derivation_at, (("n",), "n"), 1)

    def test_very_many(self):
        for text in HARD[:2]:
            sequent = parse_sequent(text)
            many = count_derivations(sequent)
            for index in (0, many // 2, many - 1):
                derivation = derivation_at(sequent, index)
                self.assertIsNone(first_fault(derivation))
                self.assertEqual(sequent_of(derivation), sequent)
                self.assertEqual(index_of(derivation), index)
            self.refuses(FitError, derivation_at, sequent, many)
            self.refuses(FitError, derivation_at, sequent, -1)
            first = list(itertools.islice(derivations_of(sequent), 40))
            self.assertEqual([order_key(derivation) for derivation in first],
                             sorted({order_key(derivation) for derivation in first}))
            self.assertEqual([first[0], first[39]], [derivation_at(sequent, index) for index in (0, 39)])

    def test_the_first_ones_come_at_once(self):
        # The first split has a part with 58786 derivations beside one that has
        # none, although its balances do not differ.
        dead = parse_sequent("n / n, n / n, n / n, n / n, n / n, n / n, n / n, n / n, n, n > n, n => n * n")
        found = list(itertools.islice(derivations_of(dead), 3))
        self.assertEqual(len(found), 3)
        chain = ((OVER,) * 11 + ("n",), "n")
        self.assertEqual([index_of(derivation) for derivation in itertools.islice(derivations_of(chain), 5)],
                         [0, 1, 2, 3, 4])

    def test_a_part_without_derivations_beside_many(self):
        premises = (OVER,) * 7 + ("n", ("/", "x", "x"), "x", (">", "m", "m"))
        sequent = (premises, ("*", "n", "x"))
        self.assertEqual(list(derivations_of(sequent)), [])
        self.refuses(FitError, derivation_at, sequent, 0)

    def test_a_list_that_is_handed_in_stays(self):
        premises = [OVER, OVER, "n"]
        self.assertEqual(list(derivations_of((premises, "n"))), list(derivations_of(((OVER, OVER, "n"), "n"))))
        self.assertEqual(derivation_at((premises, "n"), 1), derivation_at(((OVER, OVER, "n"), "n"), 1))
        self.assertEqual(premises, [OVER, OVER, "n"])

    def test_wrong_and_large_sequents(self):
        def first(sequent):
            return next(derivations_of(sequent), None)

        def at_zero(sequent):
            return derivation_at(sequent, 0)

        def at_minus(sequent):
            return derivation_at(sequent, -1)

        for call in (first, at_zero, at_minus):
            for wrong in (((), "n"), ("n", "n"), (("n",) * 13, "n."), ((comb(41),), "n"), (("n",) * 50, 3)):
                self.refuses(SequentError, call, wrong)
            for large in ((("n",) * 13, "n"), ((bush(24),), "n"), (["n"] * 41, "n"), (("n",) * 12, bush(13))):
                self.refuses(SizeError, call, large)
        self.assertIsNone(first((("n",) * 12, "n")))
        self.assertIsNotNone(first((("n",) * 12, bush(12))))

    def test_index_of_wrong_derivations(self):
        cut = make_step("cut", 0, (make_axiom("n"), make_axiom("n")))
        right = identity(("/", OVER, UNDER))
        for wrong in (cut, make_step("under left", 1, (cut, make_axiom("s"))), stub(("n",), "n"), stub((), "n"),
                      ("axiom", ("n",), "n", 0, 1, ()), ("axiom", ("n",), "s", 0, 0, ()), right[:4] + (1, right[5]),
                      right[:5] + ((make_axiom("n"),),), make_step("pair right", 1, (make_axiom("n"), stub(("n",), "n")))):
            self.refuses(FitError, index_of, wrong)

    def test_index_of_large_derivations(self):
        large = make_axiom("n")
        for _ in range(12):
            large = make_step("over left", 0, (large, make_axiom("n")))
        self.assertEqual(len(large[1]), 13)
        self.refuses(SizeError, index_of, large)
        self.refuses(SizeError, index_of, identity(comb(13)))
        self.same(index_of(identity(comb(12, sign="*"))), index_of(identity(comb(12, sign="*"))))
        self.assertEqual(count_atoms(sequent_of(identity(comb(12)))), 24)
        self.assertEqual(derivation_at(sequent_of(identity(comb(12))), index_of(identity(comb(12)))),
                         identity(comb(12)))

    def test_a_fault_in_a_large_derivation(self):
        self.refuses(FitError, index_of, stub(("n",) * 13, "n"))
        large = identity(comb(13))
        self.refuses(FitError, index_of, large[:3] + (1,) + large[4:])
        self.refuses(FitError, index_of, make_step("cut", 0, (large, large)))

    def test_derivations_made_by_chance(self):
        for derivation in grown(random.Random(8), 60, 6, atoms=("n",)):
            sequent = sequent_of(derivation)
            self.assertEqual(derivation_at(sequent, index_of(derivation)), derivation)
