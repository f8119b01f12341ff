"""[51] to [53], [57], [58]: trees of derivations."""

import random

from tests.helper import Case, all_derivations, apply_over, apply_under, bush, comb, identity
from tests.worlds import WORLDS, choices, grown, largest_count, value_of
from wordfractions.errors import FitError
from wordfractions.kinds.shape import atoms_of, size_of
from wordfractions.search.decide import decide
from wordfractions.search.listing import derivations_of
from wordfractions.sequents.rules import make_axiom, make_step, sequent_of
from wordfractions.sequents.text import parse_sequent
from wordfractions.trees.binarize import binarize
from wordfractions.trees.shape import count_nodes, format_tree, largest_size, leaves_of, tree_fault, tree_kind, walk_nodes

N, S = make_axiom("n"), make_axiom("s")
VP = (">", "n", "s")


def value_of_tree(tree, world, values):
    """The value of a tree, for the values of its leaves."""
    if tree[0] == "leaf":
        return values[0]
    if tree[0] == "unary":
        return value_of(tree[3], world, (value_of_tree(tree[2], world, values),))
    many = len(leaves_of(tree[2]))
    left, right = value_of_tree(tree[2], world, values[:many]), value_of_tree(tree[3], world, values[many:])
    return value_of(tree[4], world, (left, right))


def largest_in(tree, world):
    return max([largest_count(node[-1], world) for _, node in walk_nodes(tree) if node[0] != "leaf"] or [1])


class BinarizeTest(Case):

    def judge(self, derivation, rng=None, worlds=WORLDS):
        """What [57] asks for."""
        premises, goal = sequent_of(derivation)
        tree = binarize(derivation)
        self.assertIsNone(tree_fault(tree))
        self.assertEqual(leaves_of(tree), premises)
        self.assertEqual(tree_kind(tree), goal)
        self.assertLessEqual(largest_size(tree), max(size_of(kind) for kind in premises + (goal,)))
        atoms = {atom for kind in premises + (goal,) for atom in atoms_of(kind)}
        for _, node in walk_nodes(tree):
            self.assertLessEqual(set(atoms_of(node[1])), atoms)
        many = len(premises)
        self.assertEqual(count_nodes(tree), (1, 1, 0) if many == 1 else (many, 0, many - 1))
        if rng is not None:
            for world in worlds:
                if max(largest_count(derivation, world), largest_in(tree, world)) <= 10 ** 4:
                    for values in choices(premises, world, rng, 6):
                        self.assertEqual(value_of_tree(tree, world, values), value_of(derivation, world, values))
        return tree

    def test_interface_example(self):
        tree = binarize(decide(parse_sequent("a / b, b / c, c / d => a / d"))[1])
        self.same((count_nodes(tree), largest_size(tree)), ((3, 0, 2), 2))
        self.judge(decide(parse_sequent("a / b, b / c, c / d => a / d"))[1])

    def test_one_premise(self):
        for derivation in (N, identity(VP), make_step("over right", 0, (apply_under("s", "n"),)), identity(comb(40))):
            tree = self.judge(derivation)
            self.same(tree[:3], ("unary", derivation[2], ("leaf", derivation[1][0])))

    def test_two_premises(self):
        for derivation in (apply_over("s", "n"), apply_under(VP, "n"), make_step("pair right", 1, (N, S))):
            tree = self.judge(derivation, random.Random(1))
            self.same(tree[:4], ("binary", derivation[2], *[("leaf", kind) for kind in derivation[1]]))

    def test_the_example_of_58(self):
        """The interpolant of the first two premises would be larger than any kind of the sequent."""
        sequent = parse_sequent("n, n / n, n => n * n")
        for derivation in derivations_of(sequent):
            tree = self.judge(derivation, random.Random(2))
            self.same(format_tree(tree), "binary n * n\n  leaf n\n  binary n\n    leaf n / n\n    leaf n")

    def test_neighbours_at_the_goal(self):
        """The last premise and the goal are the neighbours that strike out."""
        for text in ("n, n / m, m => n * n", "a, b, c => (a * b) * c", "a, b / c, c => a * b", "a, b, c => a * (b * c)",
                     "a / b, b / c => a / c", "a, a > b, c => b * c", "b, c / d, d / e => b * (c / e)",
                     "a, b, c, d => ((a * b) * c) * d"):
            status, derivation = decide(parse_sequent(text))
            if status == "derived":
                self.judge(derivation, random.Random(3), ({"a": 2, "b": 2, "c": 2, "d": 2},))
        self.same(format_tree(binarize(decide(parse_sequent("a, b, c => (a * b) * c"))[1])),
                  "binary (a * b) * c\n  binary a * b\n    leaf a\n    leaf b\n  leaf c")

    def test_other_values(self):
        rng = random.Random(4)
        told = []
        sequent = parse_sequent("s / (n > s), (n > s) / n, (s / n) > s => s")
        for derivation in derivations_of(sequent):
            tree = self.judge(derivation, rng, ({"n": 2, "s": 2},))
            told.append([value_of_tree(tree, {"n": 2, "s": 2}, (p, v, q)) for p in range(0, 16, 3)
                         for v in range(0, 16, 2) for q in range(0, 16, 5)])
        self.assertGreater(len({tuple(row) for row in told}), 1)
        for text in ("n / n, n / n, n, n > n => n", "n / n, n, n > n, n > n => n"):
            for derivation in derivations_of(parse_sequent(text)):
                self.judge(derivation, rng, ({"n": 2}, {"n": 3}))

    def test_all_small_derivations(self):
        rng = random.Random(5)
        for derivations in all_derivations(("n",), 6).values():
            for derivation in derivations:
                self.judge(derivation)
        for derivations in list(all_derivations(("n",), 6).values())[::9]:
            for derivation in derivations:
                self.judge(derivation, rng, ({"n": 2}, {"n": 3}))

    def test_by_chance(self):
        rng = random.Random(6)
        for derivation in grown(rng, 200, 9, atoms=("n",)):
            self.judge(derivation, rng)
        for derivation in grown(rng, 100, 8):
            self.judge(derivation, rng)

    def test_cuts(self):
        cut = make_step("cut", 0, (N, N))
        for derivation in (cut, make_step("cut", 0, (apply_over("n", "s"), N)), make_step("pair right", 1, (N, cut)),
                           make_step("under left", 1, (cut, S))):
            self.refuses(FitError, binarize, derivation)

    def test_numbered_atoms(self):
        one = make_axiom("n.1")
        for derivation in (one, apply_over("s", "n.1"), make_step("pair right", 1, (N, one)),
                           make_step("pair right", 2, (apply_over("s", "n"), one)), identity(("/", "n", "s.2"))):
            self.refuses(FitError, binarize, derivation)

    def test_the_largest(self):
        long = N
        for _ in range(39):
            long = make_step("over left", 0, (long, N))
        back = N
        for place in range(39):
            back = make_step("under left", place + 1, (back, N))
        mixed = N
        for place in range(19):
            mixed = make_step("under left", 1, (N, make_step("over left", 0, (mixed, N))))
        row = N
        for _ in range(39):
            row = make_step("pair right", 1, (N, row))
        left = N
        for _ in range(39):
            left = make_step("pair right", len(left[1]), (left, N))
        for derivation in (long, back, mixed, row, left):
            self.assertGreaterEqual(len(derivation[1]), 39)
            self.judge(derivation)
        for kind in [comb(40, sign=sign, left=way) for sign in "/>*" for way in (True, False)] + [bush(40)]:
            self.judge(identity(kind))
        self.judge(make_step("over right", 0, (long,)))
        self.judge(make_step("under right", 0, (back,)))

    def test_large_ones_by_chance(self):
        rng = random.Random(7)
        met = 0
        for derivation in grown(rng, 60, 30, atoms=("n", "s")):
            self.judge(derivation)
            met += len(derivation[1]) > 5
        self.assertGreater(met, 10)

    def test_arguments_stay(self):
        derivation = decide(parse_sequent("n, n / n, n => n * n"))[1]
        before = repr(derivation)
        binarize(derivation)
        self.assertEqual(repr(derivation), before)
