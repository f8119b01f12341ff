"""[30], [59]: trees led back to derivations."""

import random

from tests.helper import Case, apply_over, apply_under, bush, comb, identity, stub
from tests.planted import plant, small_derivations
from tests.test_binarize import largest_in, value_of_tree
from tests.worlds import WORLDS, choices, grown, largest_count, value_of
from wordfractions.errors import FitError, SizeError
from wordfractions.search.decide import decide
from wordfractions.sequents.faults import first_fault
from wordfractions.sequents.rules import make_axiom, make_step, sequent_of
from wordfractions.sequents.text import parse_sequent
from wordfractions.trees.back import tree_derivation
from wordfractions.trees.binarize import binarize
from wordfractions.trees.shape import leaves_of, tree_fault

N, S = make_axiom("n"), make_axiom("s")
VP = (">", "n", "s")


def leaf(kind):
    return ("leaf", kind)


def row_of(tree, many):
    """A tree with so many leaves n, where the given tree of the kind n is the last part."""
    for _ in range(many):
        derivation = make_step("pair right", 1, (N, identity(tree[1])))
        tree = ("binary", derivation[2], leaf("n"), tree, derivation)
    return tree


def chain_of(tree, many):
    """A tree of the kind n with so many leaves n / n, where the given tree of the kind n is the last part."""
    for _ in range(many):
        tree = ("binary", "n", leaf(("/", "n", "n")), tree, apply_over("n", "n"))
    return tree


class BackTest(Case):

    def judge(self, tree, rng=None, worlds=WORLDS):
        """A derivation without cuts and faults of the sequent, with the tree's value."""
        self.assertIsNone(tree_fault(tree))
        derivation = tree_derivation(tree)
        self.same(sequent_of(derivation), (leaves_of(tree), tree[1]))
        self.assertIsNone(first_fault(derivation))
        if rng is not None:
            for world in worlds:
                if max(largest_count(derivation, world), largest_in(tree, world)) <= 10 ** 4:
                    for values in choices(leaves_of(tree), world, rng, 8):
                        self.assertEqual(value_of(derivation, world, values), value_of_tree(tree, world, values))
        return derivation

    def test_a_lone_leaf(self):
        for kind in ("n", "n.3", VP, ("/", VP, "n.1"), ("*", "s", "n"), comb(40), bush(40, sign="/"), comb(40, left=False)):
            self.same(tree_derivation(leaf(kind)), identity(kind))

    def test_one_node(self):
        for derivation in (N, identity(VP), apply_under("s", "n"), apply_over(VP, "n"), make_step("pair right", 1, (N, S)),
                           make_step("over right", 0, (apply_under("s", "n"),))):
            leaves = tuple(leaf(kind) for kind in derivation[1])
            form = "unary" if len(leaves) == 1 else "binary"
            self.judge((form, derivation[2], *leaves, derivation), random.Random(1))

    def test_several_levels(self):
        raised = make_step("over right", 0, (apply_under("s", "n"),))
        tree = ("unary", raised[2], leaf("n"), raised)
        tree = ("binary", "s", tree, leaf(VP), apply_over("s", VP))
        self.judge(tree, random.Random(2))
        both = ("binary", ("*", "s", VP), ("unary", "s", tree, S), ("unary", VP, leaf(VP), identity(VP)),
                make_step("pair right", 1, (S, identity(VP))))
        self.judge(both, random.Random(3))
        back = make_step("under right", 0, (apply_over("s", "s"),))
        self.judge(("unary", back[2], ("unary", "s", tree, S), back), random.Random(4))

    def test_the_deepest(self):
        tree = leaf(VP)
        for _ in range(60):
            tree = ("unary", VP, tree, identity(VP))
        self.judge(tree, random.Random(5), ({"n": 2, "s": 2},))
        self.judge(chain_of(leaf("n"), 39))
        self.judge(row_of(leaf("n"), 39))

    def test_the_value_is_that_of_the_tree(self):
        """Of several derivations of one sequent the right one is given."""
        rng = random.Random(5)
        told = set()
        for text in ("n / n, n / n, n, n > n => n", "s / (n > s), (n > s) / n, (s / n) > s => s", "n / n, n, n > n => n"):
            status, derivation = decide(parse_sequent(text))
            self.judge(binarize(derivation), rng, ({"n": 2, "s": 2}, {"n": 3}))
        first = ("binary", "n", leaf(("/", "n", "n")), ("binary", "n", leaf("n"), leaf((">", "n", "n")), apply_under("n", "n")),
                 apply_over("n", "n"))
        second = ("binary", "n", ("binary", "n", leaf(("/", "n", "n")), leaf("n"), apply_over("n", "n")), leaf((">", "n", "n")),
                  apply_under("n", "n"))
        for tree in (first, second):
            derivation = self.judge(tree, rng, ({"n": 2}, {"n": 3}))
            told.add(tuple(value_of(derivation, {"n": 2}, (f, x, g)) for f in range(4) for x in range(2) for g in range(4)))
        self.same(len(told), 2)

    def test_trees_by_chance(self):
        rng = random.Random(6)
        for atoms, size in ((("n",), 3), (("n", "s"), 4), (("n",), 5)):
            derivations = small_derivations(rng, 120, size, atoms)
            met = 0
            for _ in range(250):
                tree = plant(rng, derivations, rng.randint(1, 5))
                sequent = (leaves_of(tree), tree[1])
                if len(sequent[0]) <= 6:
                    self.judge(tree, rng)
                    met += len(sequent[0]) > 2
            self.assertGreater(met, 8)

    def test_there_and_back(self):
        rng = random.Random(7)
        for derivation in grown(rng, 80, 8):
            self.judge(binarize(derivation), rng)
        for derivation in grown(rng, 20, 30):
            self.judge(binarize(derivation))

    def test_larger_sequents_on_the_way(self):
        """Some order of composing meets more than 80 atoms, though leaves => kind has only 44."""
        for kind in (bush(19), comb(19, "m", ">"), comb(19, sign="/", left=False)):
            # Three leaves of 23 atoms in all that give the kind.
            row = ("binary", "m", leaf(("/", "m", "n")), leaf("n"), apply_over("m", "n"))
            row = ("binary", kind, leaf(("/", kind, "m")), row, apply_over(kind, "m"))
            fraction = ("/", "s", kind)
            pair = make_step("pair right", 1, (identity(fraction), identity(kind)))
            tree = ("binary", pair[2], leaf(fraction), row, pair)
            closed = make_step("pair left", 0, (apply_over("s", kind),))
            self.judge(("unary", "s", tree, closed))
            put = make_step("over right", 0, (make_step("pair right", 1, (N, identity(kind))),))
            goal = ("*", "n", kind)
            self.judge(("binary", goal, ("unary", put[2], leaf("n"), put), row, apply_over(goal, kind)))
            put = make_step("under right", 0, (make_step("pair right", 1, (identity(kind), N)),))
            goal = ("*", kind, "n")
            self.judge(("binary", goal, row, ("unary", put[2], leaf("n"), put), apply_under(goal, kind)))

    def test_numbers_of_leaves(self):
        two = ("binary", "n", leaf(("/", "n", "n")), leaf("n"), apply_over("n", "n"))
        self.same(len(leaves_of(row_of(leaf("n"), 39))), 40)
        self.judge(row_of(leaf("n"), 39))
        # 41 leaves: one more number of leaves, and with it more than 80 atoms.
        self.refuses(SizeError, tree_derivation, row_of(two, 39))
        self.refuses(SizeError, tree_derivation, chain_of(leaf("n"), 40))
        self.refuses(SizeError, tree_derivation, chain_of(leaf("n"), 60))

    def test_numbers_of_atoms(self):
        kind = comb(39)
        fits = ("binary", kind, leaf(("/", kind, "n")), leaf("n"), apply_over(kind, "n"))
        self.judge(fits)
        self.judge(("unary", comb(40), leaf(comb(40)), identity(comb(40))))
        for tree in (("binary", kind, leaf(("/", kind, "n")), ("binary", "n", leaf(("/", "n", "m")), leaf("m"),
                                                                apply_over("n", "m")), apply_over(kind, "n")),
                     row_of(("binary", "n", leaf(("/", "n", ("/", "n", "n"))), leaf(("/", "n", "n")),
                             apply_over("n", ("/", "n", "n"))), 38)):
            self.assertLessEqual(len(leaves_of(tree)), 40)
            self.assertIsNone(tree_fault(tree))
            self.refuses(SizeError, tree_derivation, tree)

    def test_faults_come_first(self):
        cut = make_step("cut", 0, (N, N))
        for tree in (("unary", "n", leaf("n"), cut), ("unary", "s", leaf("n"), N), ("unary", "n", leaf("s"), N),
                     ("unary", "n", leaf("n"), stub(("n",), "n")), ("binary", "s", leaf(VP), leaf("n"), apply_under("s", "n")),
                     ("binary", "s", leaf("n"), leaf(VP), apply_over("s", "n")),
                     ("binary", "s", leaf("n"), ("unary", VP, leaf(VP), make_step("cut", 0, (identity(VP), identity(VP)))),
                      apply_under("s", "n")),
                     chain_of(("unary", "n", leaf("n"), cut), 40), row_of(("unary", "n", leaf("n"), cut), 20),
                     chain_of(("unary", "n", leaf("s"), N), 45), row_of(("unary", "n", leaf("s"), N), 39)):
            self.assertIsNotNone(tree_fault(tree))
            self.refuses(FitError, tree_derivation, tree)

    def test_arguments_stay(self):
        tree = row_of(leaf("n"), 5)
        before = repr(tree)
        tree_derivation(tree)
        self.assertEqual(repr(tree), before)
