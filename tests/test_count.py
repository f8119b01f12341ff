"""[26], [27], [29]: how many derivations there are."""

from tests.helper import Case, all_derivations, bush, comb
from tests.test_decide import HARD
from tests.test_last_steps import small_sequents
from wordfractions.errors import SequentError, SizeError
from wordfractions.search.count import count_derivations
from wordfractions.search.listing import derivations_of
from wordfractions.sequents.text import parse_sequent

OVER = ("/", "n", "n")


def ways_by_hand(many):
    """The number of derivations of so many n / n and an n: those of C in [10]."""
    ways = [1]
    for size in range(1, many + 1):
        ways.append(sum(ways[ahead] * ways[size - 1 - ahead] for ahead in range(size)))
    return ways[many]


class CountTest(Case):

    def test_the_interface_example(self):
        self.same(count_derivations(parse_sequent("n / n, n / n, n => n")), 2)

    def test_axioms_and_sequents_without_derivations(self):
        self.same(count_derivations((("n",), "n")), 1)
        self.same(count_derivations((("n.7",), "n.7")), 1)
        for text in ("n => s", "n => n.1", "n, n => n", "n / n => n > n", "(n / n) / (n / n) => n / n", "a * b => b * a"):
            self.same(count_derivations(parse_sequent(text)), 0)

    def test_the_example_of_27(self):
        self.same(count_derivations(((OVER,) * 11 + ("n",), "n")), 58786)

    def test_chains(self):
        for many in range(12):
            self.same(count_derivations(((OVER,) * many + ("n",), "n")), ways_by_hand(many))
            self.same(count_derivations((("n",) + ((">", "n", "n"),) * many, "n")), ways_by_hand(many))

    def test_against_all_derivations_made_forwards(self):
        self.assertGreater(max(len(found) for found in all_derivations(("n",), 6).values()), 1)
        for atoms, most in ((("n",), 6), (("a", "b"), 4)):
            derived = all_derivations(atoms, most)
            for sequents in small_sequents(atoms, most):
                for sequent in sequents:
                    self.same(count_derivations(sequent), len(derived.get(sequent, ())))

    def test_the_length_of_the_list(self):
        for text in ("n / n, n / n, n, n > n => n", "(n / n) * (n / n), n, n > n => n", "a / b, b / c, c / d => a / d",
                     "n * n, n * n => n * (n * (n * n))", "n / n, n / n, n / n => n / n"):
            sequent = parse_sequent(text)
            self.same(count_derivations(sequent), len(list(derivations_of(sequent))))

    def test_lists(self):
        premises = [OVER, "n"]
        self.same(count_derivations((premises, "n")), 1)
        self.same(premises, [OVER, "n"])

    def test_large_numbers(self):
        for text, wanted in zip(HARD, (102062208340, 75763551135, 0)):
            self.same(count_derivations(parse_sequent(text)), wanted)

    def test_wrong_and_large_sequents(self):
        self.refuses(SequentError, count_derivations, ((), "n"))
        self.refuses(SequentError, count_derivations, (("n",) * 13, "n."))
        self.refuses(SequentError, count_derivations, ("n", "n"))
        self.refuses(SequentError, count_derivations, ((comb(41),), "n"))
        self.refuses(SizeError, count_derivations, (("n",) * 13, "n"))
        self.refuses(SizeError, count_derivations, ((bush(24),), "n"))
        self.refuses(SizeError, count_derivations, (["n"] * 41, "n"))
        self.same(count_derivations((("n",) * 12, comb(12, sign="*"))), 1)
        self.same(count_derivations((("n",) * 12, "n")), 0)
