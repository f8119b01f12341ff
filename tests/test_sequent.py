"""[7], [12], [14]: sequents."""

import copy

from tests.helper import Case, bush, comb, derivations
from wordfractions.errors import SequentError, SizeError
from wordfractions.sequents.sequent import (
    balances_differ, count_atoms, count_signs, make_sequent, mirror_sequent,
)

VP = (">", "n", "s")
NO_KINDS = (None, True, False, 0, 1, "", "N", "n.0", (), ("n",), ["/", "n", "n"], {}, ("/", "n", "S"), 10 ** 30)


class MakeSequentTest(Case):

    def test_tuples_and_lists(self):
        self.same(make_sequent(("n", VP), "s"), (("n", VP), "s"))
        self.same(make_sequent(["n", VP], "s"), (("n", VP), "s"))
        self.same(make_sequent(("n.1",), VP), (("n.1",), VP))

    def test_a_list_stays_as_it_was(self):
        premises = ["n", VP]
        sequent = make_sequent(premises, "s")
        self.same(premises, ["n", VP])
        premises.append("n")
        self.same(sequent, (("n", VP), "s"))
        wrong = ["n", None]
        before = copy.deepcopy(wrong)
        self.refuses(SequentError, make_sequent, wrong, "s")
        self.same(wrong, before)

    def test_premises_of_another_make(self):
        for premises in ("n", None, True, 1, {}, {"n": 1}, {"n"}, 0, "", b"n"):
            self.refuses(SequentError, make_sequent, premises, "n")

    def test_no_premises(self):
        self.refuses(SequentError, make_sequent, (), "n")
        self.refuses(SequentError, make_sequent, [], "n")

    def test_what_are_no_kinds(self):
        for thing in NO_KINDS + (comb(41),):
            self.refuses(SequentError, make_sequent, ("n", thing), "n")
            self.refuses(SequentError, make_sequent, [thing, "n"], "n")
            self.refuses(SequentError, make_sequent, ("n",), thing)
        # A lone kind is a tuple, but its sign is no premise.
        self.refuses(SequentError, make_sequent, VP, "s")

    def test_forty_premises_and_one_more(self):
        self.same(len(make_sequent(("n",) * 40, "n")[0]), 40)
        self.refuses(SizeError, make_sequent, ("n",) * 41, "n")
        self.refuses(SizeError, make_sequent, ["n"] * 41, "n")
        self.refuses(SizeError, make_sequent, ["n"] * 900, "n")

    def test_eighty_atoms_and_one_more(self):
        self.same(make_sequent((comb(40),), comb(40)), ((comb(40),), comb(40)))
        self.refuses(SizeError, make_sequent, (comb(40), "n"), comb(40))
        make_sequent((comb(39), "n"), bush(40))
        self.same(count_atoms(make_sequent(("n",) * 40, comb(40))), 80)
        make_sequent((comb(39), comb(40)), "n")
        self.refuses(SizeError, make_sequent, (comb(40), comb(40)), "n")
        self.refuses(SizeError, make_sequent, (comb(40), comb(40), comb(40)), comb(40))

    def test_sequent_error_comes_first(self):
        for thing in NO_KINDS + (comb(41),):
            self.refuses(SequentError, make_sequent, ("n",) * 41 + (thing,), "n")
            self.refuses(SequentError, make_sequent, ("n",) * 41, thing)
            self.refuses(SequentError, make_sequent, (comb(40), comb(40), thing), "n")


class CountTest(Case):

    def test_counts(self):
        for sequent, atoms, signs in (((("n",), "n"), 2, 0), ((("n", VP), "s"), 4, 1), (((VP, VP), VP), 6, 3),
                                      (((comb(40),), comb(40)), 80, 78), ((("n",) * 40, "n.1"), 41, 0)):
            self.same(count_atoms(sequent), atoms)
            self.same(count_signs(sequent), signs)


class BalancesDifferTest(Case):

    def test_differ(self):
        for sequent in ((("n",), "s"), (("n",), "n.1"), (("n", "n"), "n"), ((VP, "n"), "s"), (("n",), VP),
                        (("a", "b"), ("*", "b", "a")), ((("/", "n", "n"), ("/", "n", "n")), "n")):
            self.assertIs(balances_differ(sequent), True, sequent)

    def test_do_not_differ(self):
        for sequent in ((("n",), "n"), (("n.1",), "n.1"), (("n", VP), "s"), (("a", "b"), ("*", "a", "b")),
                        ((("/", "n", "n"), "n"), "n"), ((("/", "n", ("/", "n", "n")),), "n"),
                        ((("/", "s", VP),), "n"), ((("/", "a", "b"), ("/", "b", "c")), ("/", "a", "c")),
                        ((("/", "n", "n"),), ("/", "s", "s"))):
            self.assertIs(balances_differ(sequent), False, sequent)

    def test_many_premises(self):
        self.assertIs(balances_differ(((("/", "n", "n"),) * 40 + ("n",), "n")), False)
        self.assertIs(balances_differ((("n",) * 41, "n")), True)

    def test_no_derivation_where_they_differ(self):
        for premises in (("n", VP), (VP, "n"), ("n", "n"), ("n", ("/", VP, "n"), "n"), (("/", "s", "n"), "n")):
            for goal in ("n", "s", VP, ("*", "n", VP)):
                if derivations((premises, goal)):
                    self.assertIs(balances_differ((premises, goal)), False)


class MirrorTest(Case):

    def test_interface_example(self):
        self.same(mirror_sequent(make_sequent(["n", (">", "n", "s")], "s")), ((("/", "s", "n"), "n"), "s"))

    def test_others(self):
        self.same(mirror_sequent((("a", "b", "c.1"), "d")), (("c.1", "b", "a"), "d"))
        sequent = (("a", ("*", "a", VP)), ("/", "b", ("*", "c", "d")))
        self.same(mirror_sequent(sequent), ((("*", ("/", "s", "n"), "a"), "a"), (">", ("*", "d", "c"), "b")))
        self.same(mirror_sequent(mirror_sequent(sequent)), sequent)
