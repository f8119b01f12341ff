"""[43], [55]: values of trees."""

import itertools
import random

from tests.helper import Case, apply_over, apply_under, bush, identity
from tests.planted import plant, small_derivations
from tests.test_binarize import largest_in, value_of_tree
from tests.worlds import WORLDS, choices, count, grown, largest_count, value_of
from wordfractions.errors import FitError, SizeError
from wordfractions.meanings.derivations import derivation_value
from wordfractions.sequents.rules import make_axiom, make_step
from wordfractions.trees.binarize import binarize
from wordfractions.trees.meaning import tree_value
from wordfractions.trees.shape import leaves_of

N, S = make_axiom("n"), make_axiom("s")
VP = (">", "n", "s")
SENTENCE = ("binary", "s", ("leaf", "n"), ("leaf", VP), apply_under("s", "n"))
WORLD = {"n": 2, "s": 3}


class TreeValueTest(Case):

    def judge(self, tree, rng, worlds=WORLDS):
        for world in worlds:
            if largest_in(tree, world) <= 10 ** 4:
                for values in choices(leaves_of(tree), world, rng, 10):
                    self.same(tree_value(tree, world, values), value_of_tree(tree, world, values))

    def test_a_lone_leaf(self):
        for kind in ("n", "n.7", VP, ("*", "n", "s"), ("/", VP, "n")):
            for value in range(min(count(kind, WORLD), 20)):
                self.same(tree_value(("leaf", kind), WORLD, (value,)), value)
        self.same(tree_value(("leaf", "m"), WORLD, (0,)), 0)
        self.refuses(FitError, tree_value, ("leaf", "m"), WORLD, (1,))

    def test_a_lone_leaf_with_many_values(self):
        """A lone leaf may have more than 10 ** 4 values, but not more than 10 ** 12."""
        twelve = bush(12, "t")
        for kind, many in ((bush(14), 2 ** 14), (bush(39), 2 ** 39), (bush(40, sign="/"), None)):
            if many is not None:
                self.same(tree_value(("leaf", kind), WORLD, (many - 1,)), many - 1)
                self.refuses(FitError, tree_value, ("leaf", kind), WORLD, (many,))
        self.same(tree_value(("leaf", bush(39)), {"n": 2}, (5,)), 5)
        self.refuses(SizeError, tree_value, ("leaf", bush(40)), {"n": 2}, (5,))
        self.same(tree_value(("leaf", twelve), {"t": 3}, (3 ** 12 - 1,)), 3 ** 12 - 1)
        for values in ((), (0,), (True,), (0, 0), ("0",), (-1,)):
            self.refuses(SizeError, tree_value, ("leaf", bush(40)), {"n": 2}, values)
            self.refuses(SizeError, tree_value, ("leaf", ("/", "m", bush(40))), {"n": 2}, values)
        self.same(tree_value(("leaf", ("/", "m", bush(39))), {"n": 2}, (0,)), 0)

    def test_nodes(self):
        rng = random.Random(1)
        self.judge(SENTENCE, rng)
        self.same(tree_value(SENTENCE, WORLD, (1, 5)), 1)
        raised = make_step("over right", 0, (apply_under("s", "n"),))
        self.judge(("unary", raised[2], ("leaf", "n"), raised), rng)
        self.judge(("binary", "s", ("unary", raised[2], ("leaf", "n"), raised), ("leaf", VP), apply_over("s", VP)), rng)
        pair = make_step("pair right", 1, (S, N))
        self.judge(("binary", pair[2], SENTENCE, ("unary", "n", ("leaf", "n"), N), pair), rng)

    def test_trees_of_derivations(self):
        rng = random.Random(2)
        for derivation in grown(rng, 150, 8):
            tree = binarize(derivation)
            for world in WORLDS:
                if max(largest_in(tree, world), largest_count(derivation, world)) <= 10 ** 4:
                    for values in choices(derivation[1], world, rng, 6):
                        self.same(tree_value(tree, world, values), value_of(derivation, world, values))
                        self.same(tree_value(tree, world, values), derivation_value(derivation, world, values))

    def test_trees_by_chance(self):
        rng = random.Random(3)
        for atoms, size in ((("n",), 3), (("n", "s"), 4)):
            derivations = small_derivations(rng, 100, size, atoms)
            for _ in range(60):
                self.judge(plant(rng, derivations, rng.randint(1, 4)), rng)

    def test_too_many_values_in_a_derivation(self):
        """A premise, a goal, or a kind that stands only within a derivation, of whatever node."""
        for size, fits in ((13, True), (14, False)):
            kind = bush(size)
            trees = (("unary", kind, ("leaf", kind), identity(kind)),
                     ("binary", "s", ("leaf", ("/", "s", kind)), ("leaf", kind), apply_over("s", kind)))
            self.same(count(kind, {"n": 2}) <= 10 ** 4, fits)
            for tree in trees:
                values = (0,) * len(leaves_of(tree))
                if fits:
                    self.same(tree_value(tree, {"n": 2}, values), value_of_tree(tree, {"n": 2}, values))
                else:
                    for values in (values, (), (0,) * 5, (True,) * len(values), (-1,) * len(values)):
                        self.refuses(SizeError, tree_value, tree, {"n": 2}, values)
        large = bush(14)
        deep = ("binary", ("*", "m", "m"), ("leaf", "m"),
                ("unary", "m", ("unary", "m", ("leaf", "m"), make_axiom("m")), make_axiom("m")),
                make_step("pair right", 1, (make_axiom("m"), make_axiom("m"))))
        self.same(tree_value(deep, {}, (0, 0)), 0)
        inner = make_step("under left", 1, (identity(large), identity(large)))
        goal = make_step("under right", 0, (inner,))
        for tree in (("unary", goal[2], ("leaf", goal[1][0]), goal),
                     ("binary", ("*", "m", large), ("leaf", "m"), ("unary", large, ("leaf", large), identity(large)),
                      make_step("pair right", 1, (make_axiom("m"), identity(large))))):
            self.refuses(SizeError, tree_value, tree, {"n": 2}, (0,) * len(leaves_of(tree)))
            self.refuses(SizeError, tree_value, tree, {"n": 2}, ())
            self.same(tree_value(tree, {"m": 2}, (0,) * len(leaves_of(tree))), 0)

    def test_the_bound_itself(self):
        """10 ** 4 cannot be had, but 3 ** 8 and 2 ** 13 lie below, 3 ** 9 and 2 ** 14 above."""
        for kind, fits in ((bush(8, "t"), True), (bush(9, "t"), False), (("*", bush(8, "t"), "n"), False),
                           (("*", bush(7, "t"), ("*", "n", "n")), True), (("/", "n", bush(3, "n")), True),
                           (("/", "n", bush(2, "t")), True), (("/", "t", bush(2, "t")), False)):
            world = {"n": 2, "t": 3}
            tree = ("unary", kind, ("leaf", kind), identity(kind))
            self.same(count(kind, world) <= 10 ** 4, fits)
            if fits:
                self.same(tree_value(tree, world, (count(kind, world) - 1,)), count(kind, world) - 1)
            else:
                self.refuses(SizeError, tree_value, tree, world, (0,))

    def test_other_values(self):
        for values in ((), (0,), (0, 0, 0), (2, 0), (0, 9), (-1, 0), (0, -1), (True, 0), (0, False), (0, None), ("0", 0),
                       (0, "1"), ((0,), 0), (10 ** 30, 0), (0, -10 ** 30)):
            self.refuses(FitError, tree_value, SENTENCE, WORLD, values)
        self.same(tree_value(SENTENCE, WORLD, (1, 8)), 2)
        self.refuses(FitError, tree_value, ("leaf", "n"), WORLD, ())
        self.refuses(FitError, tree_value, ("leaf", "n"), WORLD, (0, 0))
        for value in (2, -1, True, False, None, "0", (0,)):
            self.refuses(FitError, tree_value, ("leaf", "n"), WORLD, (value,))
            self.refuses(FitError, tree_value, ("unary", "n", ("leaf", "n"), N), WORLD, (value,))

    def test_the_world_stays(self):
        world = dict(WORLD)
        for values in itertools.product(range(2), range(9)):
            tree_value(SENTENCE, world, values)
        self.same(world, WORLD)
        self.same(tree_value(SENTENCE, {}, (0, 0)), 0)
