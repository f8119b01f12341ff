"""[15], [16], [19]: the table of rules, and steps."""

from tests.helper import Case, bush, comb, identity, stub
from wordfractions.errors import FitError, SizeError
from wordfractions.kinds.shape import mirror_kind
from wordfractions.sequents.rules import RULES, make_axiom, make_step, sequent_of

A, B, C, D, E = "a", ("/", "b", "b.1"), ("*", "c", "c"), "d", (">", "e", "e")
FAR = (-10 ** 30, -2, -1, 7, 41, 10 ** 30)


class RulesTest(Case):

    def test_rules(self):
        self.same(RULES, ("axiom", "over right", "under right", "pair right", "over left", "under left", "pair left",
                          "cut"))

    def test_axiom(self):
        for atom in ("n", "n.1", "abcdefgh.999999"):
            self.same(make_axiom(atom), ("axiom", (atom,), atom, 0, 0, ()))

    def test_no_axiom(self):
        for thing in (("/", "n", "n"), "", "N", "n.0", "n.07", "n.1000000", "abcdefghi", None, True, 0, 1, (), ("n",),
                      ["n"], {}, 1.5):
            self.refuses(FitError, make_axiom, thing)

    def test_sequent_of(self):
        self.same(sequent_of(make_axiom("n")), (("n",), "n"))
        self.same(sequent_of(stub((), A)), ((), A))
        step = make_step("under left", 1, (make_axiom("n"), make_axiom("s")))
        self.same((sequent_of(step), step[3], step[4]), ((("n", (">", "n", "s")), "s"), 1, 1))


class TableTest(Case):
    """Each row of the table of [15]."""

    def makes(self, rule, at, parts, premises, goal, width):
        made = make_step(rule, at, parts)
        self.same(made, (rule, premises, goal, at, width, parts))

    def test_over_right(self):
        self.makes("over right", 0, (stub((A, B), C),), (A,), ("/", C, B), 0)
        self.makes("over right", 0, (stub((A, D, B, E), C),), (A, D, B), ("/", C, E), 0)

    def test_under_right(self):
        self.makes("under right", 0, (stub((A, B), C),), (B,), (">", A, C), 0)
        self.makes("under right", 0, (stub((A, D, B, E), C),), (D, B, E), (">", A, C), 0)

    def test_pair_right(self):
        self.makes("pair right", 1, (stub((A,), C), stub((B,), D)), (A, B), ("*", C, D), 0)
        self.makes("pair right", 3, (stub((A, B, E), C), stub((B, A), D)), (A, B, E, B, A), ("*", C, D), 0)

    def test_over_left(self):
        self.makes("over left", 0, (stub((A,), B), stub((D,), C)), (("/", D, B), A), C, 1)
        parts = (stub((A, B), C), stub((D, E, A), B))
        self.makes("over left", 0, parts, (("/", D, C), A, B, E, A), B, 2)
        self.makes("over left", 1, parts, (D, ("/", E, C), A, B, A), B, 2)
        self.makes("over left", 2, parts, (D, E, ("/", A, C), A, B), B, 2)

    def test_under_left(self):
        self.makes("under left", 1, (stub((A,), B), stub((D,), C)), (A, (">", B, D)), C, 1)
        parts = (stub((A, B), C), stub((D, E, A), B))
        self.makes("under left", 2, parts, (A, B, (">", C, D), E, A), B, 2)
        self.makes("under left", 3, parts, (D, A, B, (">", C, E), A), B, 2)
        self.makes("under left", 4, parts, (D, E, A, B, (">", C, A)), B, 2)

    def test_pair_left(self):
        self.makes("pair left", 0, (stub((A, B), C),), (("*", A, B),), C, 0)
        part = (stub((A, B, D, E), C),)
        self.makes("pair left", 0, part, (("*", A, B), D, E), C, 0)
        self.makes("pair left", 1, part, (A, ("*", B, D), E), C, 0)
        self.makes("pair left", 2, part, (A, B, ("*", D, E)), C, 0)

    def test_cut(self):
        self.makes("cut", 0, (stub((A,), B), stub((B,), C)), (A,), C, 1)
        parts = (stub((A, C), B), stub((D, B, E, B), C))
        self.makes("cut", 1, parts, (D, A, C, E, B), C, 2)
        self.makes("cut", 3, parts, (D, B, E, A, C), C, 2)

    def test_parts_are_kept_as_they_are(self):
        parts = (identity(B), identity(A))
        self.assertIs(make_step("over left", 0, parts)[5], parts)


class FitErrorTest(Case):

    def bad(self, rule, at, *parts):
        self.refuses(FitError, make_step, rule, at, parts)

    def test_unknown_rules(self):
        one, two = stub((A, B), C), stub((A, B), C)
        for rule in ("axiom", "", "Over right", "over", "over  right", "cut ", "rule", "pair"):
            self.bad(rule, 0)
            self.bad(rule, 0, one)
            self.bad(rule, 0, one, two)

    def test_number_of_parts(self):
        part = stub((A, A), A)
        for rule in ("over right", "under right", "pair left"):
            make_step(rule, 0, (part,))
            self.bad(rule, 0)
            self.bad(rule, 0, part, part)
            self.bad(rule, 0, part, part, part)
        for rule, at in (("pair right", 2), ("over left", 0), ("under left", 2), ("cut", 0)):
            make_step(rule, at, (part, part))
            self.bad(rule, at)
            self.bad(rule, at, part)
            self.bad(rule, at, part, part, part)

    def test_parts_without_premises(self):
        none, one = stub((), A), stub((A,), A)
        for rule in ("over right", "under right", "pair left"):
            self.bad(rule, 0, none)
        for at in (0, 1):
            for rule in ("pair right", "over left", "under left", "cut"):
                self.bad(rule, at, none, none)
                self.bad(rule, at, none, one)
                self.bad(rule, at, one, none)

    def test_parts_beyond_the_bounds(self):
        one = stub(("n",), "n")
        for large in (stub(("n",) * 41, "n"), stub((comb(40), comb(40)), "n"), stub((comb(40), "n"), comb(40))):
            for rule in ("over right", "under right", "pair left"):
                self.bad(rule, 0, large)
            for rule, at in (("over left", 0), ("cut", 0), ("pair right", 1), ("under left", 1)):
                self.bad(rule, at, one, large)
            for rule, at in (("over left", 0), ("cut", 0), ("pair right", len(large[1])),
                             ("under left", len(large[1]))):
                self.bad(rule, at, large, one)
        # Just within them, all these steps can be made.
        wide = stub(("n",) * 40, "n")
        make_step("over right", 0, (wide,))
        make_step("under right", 0, (wide,))
        make_step("pair left", 38, (wide,))
        make_step("cut", 39, (one, wide))

    def test_right_rules_at(self):
        part = stub((A, B), C)
        for at in FAR + (1, 2):
            self.bad("over right", at, part)
            self.bad("under right", at, part)

    def test_right_rules_need_two_premises(self):
        for rule in ("over right", "under right"):
            self.bad(rule, 0, stub((A,), C))
            self.bad(rule, 1, stub((A,), C))

    def test_pair_right_at(self):
        for at in FAR + (0, 1, 3):
            self.bad("pair right", at, stub((A, B), C), stub((A,), D))

    def test_over_left_at(self):
        for at in FAR + (3, 4):
            self.bad("over left", at, stub((A, B), C), stub((A, B, C), D))

    def test_under_left_at(self):
        for at in FAR + (0, 1, 5):
            self.bad("under left", at, stub((A, B), C), stub((A, B, C), D))

    def test_pair_left_at(self):
        for at in FAR + (2, 3):
            self.bad("pair left", at, stub((A, B, C), D))
        self.bad("pair left", 0, stub((A,), D))

    def test_cut_at(self):
        for at in FAR + (3,):
            self.bad("cut", at, stub((A,), B), stub((B, B, B), D))

    def test_cut_needs_the_goal(self):
        second = stub((B, A, mirror_kind(B), "b"), D)
        make_step("cut", 0, (stub((A,), B), second))
        for at in (1, 2, 3):
            self.bad("cut", at, stub((A,), B), second)
        self.bad("cut", 0, stub((A,), "n.1"), stub(("n",), D))


class SizeErrorTest(Case):

    def test_kinds_of_forty_one_atoms(self):
        half, more = bush(20), bush(21)
        other = stub(("n",), "n")
        for rule in ("over right", "under right"):
            make_step(rule, 0, (stub((half, half, half), half),))
            self.refuses(SizeError, make_step, rule, 0, (stub((more, "s", more), half),))
            self.refuses(FitError, make_step, rule, 1, (stub((more, "s", more), half),))
            self.refuses(FitError, make_step, rule, 0, (stub((comb(40),), comb(40)),))
        make_step("pair left", 0, (stub((half, half), "n"),))
        self.refuses(SizeError, make_step, "pair left", 0, (stub((half, more), "n"),))
        self.refuses(FitError, make_step, "pair left", 1, (stub((half, more), "n"),))
        make_step("pair right", 1, (stub(("n",), half), stub(("n",), half)))
        self.refuses(SizeError, make_step, "pair right", 1, (stub(("n",), half), stub(("n",), more)))
        self.refuses(FitError, make_step, "pair right", 0, (stub(("n",), half), stub(("n",), more)))
        make_step("over left", 0, (stub(("n",), half), stub((half,), "n")))
        self.refuses(SizeError, make_step, "over left", 0, (stub(("n",), half), stub((more,), "n")))
        self.refuses(FitError, make_step, "over left", 1, (stub(("n",), half), stub((more,), "n")))
        make_step("under left", 1, (stub(("n",), half), stub((half,), "n")))
        self.refuses(SizeError, make_step, "under left", 1, (stub(("n",), half), stub((more,), "n")))
        self.refuses(FitError, make_step, "under left", 0, (stub(("n",), half), stub((more,), "n")))
        self.refuses(FitError, make_step, "over right", 0, (other, other))

    def test_forty_premises_and_one_more(self):
        row = ("n",) * 20
        make_step("pair right", 20, (stub(row, "n"), stub(row, "n")))
        self.refuses(SizeError, make_step, "pair right", 21, (stub(row + ("n",), "n"), stub(row, "n")))
        self.refuses(FitError, make_step, "pair right", 20, (stub(row + ("n",), "n"), stub(row, "n")))
        for rule, at in (("over left", 3), ("under left", 23)):
            make_step(rule, at, (stub(row, "n"), stub(row, "n")))
            self.refuses(SizeError, make_step, rule, at, (stub(row, "n"), stub(row + ("n",), "n")))
        make_step("cut", 0, (stub(row, "n"), stub(row + ("n",), "n")))
        self.refuses(SizeError, make_step, "cut", 0, (stub(row, "n"), stub(row + ("n", "n"), "n")))
        self.refuses(FitError, make_step, "cut", 0, (stub(row, "s"), stub(row + ("n", "n"), "n")))

    def test_eighty_atoms_and_one_more(self):
        ten, more = bush(10), bush(11)
        parts = (stub((ten, ten, ten), ten), stub((ten, ten, ten), ten))
        for rule, at in (("pair right", 3), ("over left", 0), ("under left", 3)):
            make_step(rule, at, parts)
            self.refuses(SizeError, make_step, rule, at, (stub((ten, more, ten), ten), parts[1]))
            self.refuses(FitError, make_step, rule, 99, (stub((ten, more, ten), ten), parts[1]))
        long = stub((ten, ten, ten, ten), ten)
        make_step("cut", 0, (long, stub((ten, ten, ten, ten), ten)))
        self.refuses(SizeError, make_step, "cut", 0, (long, stub((ten, ten, ten, more), ten)))


class FaultsOfPartsTest(Case):

    def test_only_their_sequents_are_looked_at(self):
        wrong = ("axiom", ("n",), "n", 5, 3, (make_axiom("n"),))
        made = make_step("over left", 0, (stub(("b", "b"), A, (stub((), A),)), wrong))
        self.same(made[1:5], ((("/", "n", A), "b", "b"), "n", 0, 2))
