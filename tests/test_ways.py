"""[30], [36], [37], [38]: ways from a derivation to another one, and ready derivations."""

import random

from tests.helper import Case, apply_over, apply_under, bush, comb, identity
from tests.worlds import WORLDS, choices, count, entry, grown, largest_count, value_of
from wordfractions.cuts import ways
from wordfractions.errors import FitError, SizeError
from wordfractions.kinds.text import parse_kind
from wordfractions.search.listing import derivations_of
from wordfractions.sequents.faults import first_fault
from wordfractions.sequents.rules import make_axiom, make_step, sequent_of
from wordfractions.sequents.text import format_sequent, parse_sequent

N, S = make_axiom("n"), make_axiom("s")
VP = (">", "n", "s")
CUT = make_step("cut", 0, (apply_over("n", "s"), N))
HUGE = 10 ** 30


def wide(many):
    """A derivation of two premises whose second one has so many atoms."""
    return make_step("pair right", 1, (N, identity(comb(many))))


class ToTest(Case):

    def test_over_and_under(self):
        for derivation in (apply_under("s", "n"), apply_over(VP, "n"), wide(3)):
            premises, goal = sequent_of(derivation)
            over = ways.to_over(derivation)
            self.same(over, ("over right", premises[:-1], ("/", goal, premises[-1]), 0, 0, (derivation,)))
            under = ways.to_under(derivation)
            self.same(under, ("under right", premises[1:], (">", premises[0], goal), 0, 0, (derivation,)))
            self.assertIsNone(first_fault(over))
            self.assertIsNone(first_fault(under))

    def test_pair(self):
        derivation = make_step("pair right", 2, (apply_under("s", "n"), apply_over("n", "s")))
        for at in range(3):
            made = ways.to_pair(derivation, at)
            self.same(made, make_step("pair left", at, (derivation,)))
            self.assertIsNone(first_fault(made))

    def test_one_premise(self):
        for way in (ways.to_over, ways.to_under):
            self.refuses(FitError, way, N)
            self.refuses(FitError, way, identity(comb(40)))
        for at in (0, 1, -1):
            self.refuses(FitError, ways.to_pair, N, at)

    def test_places_of_pairs(self):
        derivation = apply_under("s", "n")
        for at in (-1, -2, 1, 2, HUGE, -HUGE):
            self.refuses(FitError, ways.to_pair, derivation, at)

    def test_cuts(self):
        self.refuses(FitError, ways.to_over, CUT)
        self.refuses(FitError, ways.to_under, CUT)
        self.refuses(FitError, ways.to_pair, CUT, 0)
        deep = make_step("pair right", 1, (N, CUT))
        self.refuses(FitError, ways.to_over, deep)
        self.refuses(FitError, ways.to_under, deep)
        self.refuses(FitError, ways.to_pair, deep, 0)

    def test_forty_and_forty_one_atoms(self):
        def two(first, second):
            return make_step("pair right", 1, (identity(bush(first)), identity(bush(second))))

        self.assertIsNone(first_fault(ways.to_over(two(10, 15))))
        self.refuses(SizeError, ways.to_over, two(11, 15))
        self.refuses(SizeError, ways.to_over, two(9, 16))
        self.assertIsNone(first_fault(ways.to_under(two(15, 10))))
        self.refuses(SizeError, ways.to_under, two(15, 11))
        self.refuses(SizeError, ways.to_under, two(16, 9))
        self.assertIsNone(first_fault(ways.to_under(two(10, 20))))
        self.assertIsNone(first_fault(ways.to_over(two(20, 10))))
        self.assertIsNone(first_fault(ways.to_pair(two(20, 20), 0)))
        fits = make_step("over left", 0, (identity(bush(19)), identity(bush(2))))
        self.assertIsNone(first_fault(ways.to_pair(fits, 0)))
        large = make_step("over left", 0, (identity(bush(20)), N))
        self.refuses(SizeError, ways.to_pair, large, 0)

    def test_the_size_only_behind_the_fit(self):
        half = make_step("pair right", 1, (identity(bush(10)), identity(bush(20))))
        cut = make_step("cut", 0, (half, identity(half[2])))
        self.refuses(FitError, ways.to_over, cut)
        big = make_step("over left", 0, (identity(bush(20)), identity("n")))
        big = make_step("over left", 0, (big, N))
        self.refuses(SizeError, ways.to_pair, big, 1)
        for at in (-1, 2, 3, HUGE):
            self.refuses(FitError, ways.to_pair, big, at)
        self.refuses(FitError, ways.to_pair, make_step("cut", 0, (big, N)), 1)


class FromTest(Case):

    def judge_over(self, derivation, rng):
        made = ways.from_over(derivation)
        premises, (_, result, argument) = sequent_of(derivation)
        self.assertIsNone(first_fault(made))
        self.assertEqual(sequent_of(made), (premises + (argument,), result))
        for world in self.worlds(derivation, made):
            for values in choices(made[1], world, rng, 8):
                wanted = entry(derivation[2], world, value_of(derivation, world, values[:-1]), values[-1])
                self.assertEqual(value_of(made, world, values), wanted)

    def judge_under(self, derivation, rng):
        made = ways.from_under(derivation)
        premises, (_, argument, result) = sequent_of(derivation)
        self.assertIsNone(first_fault(made))
        self.assertEqual(sequent_of(made), ((argument,) + premises, result))
        for world in self.worlds(derivation, made):
            for values in choices(made[1], world, rng, 8):
                wanted = entry(derivation[2], world, value_of(derivation, world, values[1:]), values[0])
                self.assertEqual(value_of(made, world, values), wanted)

    def judge_pair(self, derivation, at, rng):
        made = ways.from_pair(derivation, at)
        premises, goal = sequent_of(derivation)
        _, first, second = premises[at]
        self.assertIsNone(first_fault(made))
        self.assertEqual(sequent_of(made), (premises[:at] + (first, second) + premises[at + 1:], goal))
        for world in self.worlds(derivation, made):
            for values in choices(made[1], world, rng, 8):
                pair = values[at] * count(second, world) + values[at + 1]
                joined = values[:at] + (pair,) + values[at + 2:]
                self.assertEqual(value_of(made, world, values), value_of(derivation, world, joined))

    def worlds(self, one, other):
        return [world for world in WORLDS if max(largest_count(one, world), largest_count(other, world)) <= 10 ** 4]

    def judge(self, derivation, rng):
        """All ways that fit."""
        premises, goal = sequent_of(derivation)
        if goal[0] == "/":
            self.judge_over(derivation, rng)
        else:
            self.refuses(FitError, ways.from_over, derivation)
        if goal[0] == ">":
            self.judge_under(derivation, rng)
        else:
            self.refuses(FitError, ways.from_under, derivation)
        for at, kind in enumerate(premises):
            if kind[0] == "*":
                self.judge_pair(derivation, at, rng)
            else:
                self.refuses(FitError, ways.from_pair, derivation, at)

    def test_back_and_forth(self):
        for derivation in (apply_under("s", "n"), apply_over(VP, "n"), wide(3)):
            self.same(ways.from_over(ways.to_over(derivation)), derivation)
            self.same(ways.from_under(ways.to_under(derivation)), derivation)
            self.same(ways.from_pair(ways.to_pair(derivation, 0), 0), derivation)

    def test_derivations_that_do_not_end_with_the_rule(self):
        rng = random.Random(1)
        over = make_step("over left", 0, (N, identity(("/", "n", "s"))))
        under = make_step("over left", 0, (N, identity(VP)))
        pair = make_step("pair right", 1, (identity(("*", "n", "s")), identity(("*", "s", "n"))))
        for derivation in (over, under, pair, make_step("pair left", 0, (over,)), make_step("pair left", 0, (under,)),
                           make_step("under left", 1, (N, pair))):
            self.judge(derivation, rng)

    def test_by_chance(self):
        rng = random.Random(2)
        for derivation in grown(rng, 250, 6):
            self.judge(derivation, rng)

    def test_other_values(self):
        rng = random.Random(3)
        for text in ("s / (n > s), (n > s) / n => s / ((s / n) > s)", "s / (n > s), ((n > s) / n) * ((s / n) > s) => s",
                     "(n > s) / n, (s / n) > s => (s / (n > s)) > s"):
            found = list(derivations_of(parse_sequent(text)))
            self.assertGreater(len(found), 1)
            for derivation in found:
                self.judge(derivation, rng)

    def test_wrong_forms(self):
        for goal in ("n", "n.1", VP, ("*", "n", "s"), ("*", ("/", "n", "s"), "n")):
            self.refuses(FitError, ways.from_over, identity(goal))
        for goal in ("n", "n.1", ("/", "n", "s"), ("*", "n", "s"), ("*", VP, "n")):
            self.refuses(FitError, ways.from_under, identity(goal))
        for premise in ("n", "n.1", VP, ("/", "n", "s"), ("/", ("*", "n", "n"), "n")):
            self.refuses(FitError, ways.from_pair, identity(premise), 0)
        pair = identity(("*", "n", "s"))
        for at in (-1, 1, 2, HUGE, -HUGE):
            self.refuses(FitError, ways.from_pair, pair, at)

    def test_cuts(self):
        for kind in (("/", "n", "s"), VP, ("*", "n", "s")):
            cut = make_step("cut", 0, (identity(kind), identity(kind)))
            self.refuses(FitError, ways.from_over, cut)
            self.refuses(FitError, ways.from_under, cut)
            self.refuses(FitError, ways.from_pair, cut, 0)
        pair = identity(("*", "n", "s"))
        for kind in (("/", "n", "s"), VP):
            beside = make_step("over left", 0, (CUT, identity(kind)))
            self.refuses(FitError, ways.from_over, beside)
            self.refuses(FitError, ways.from_under, beside)
        self.refuses(FitError, ways.from_pair, make_step("pair right", 1, (pair, CUT)), 0)

    def test_the_largest(self):
        for sign, way in (("/", ways.from_over), (">", ways.from_under)):
            for left in (True, False):
                kind = comb(40, sign=sign, left=left)
                made = way(identity(kind))
                self.assertIsNone(first_fault(made))
                self.assertEqual(len(made[1]), 2)
        made = ways.from_pair(identity(bush(40)), 0)
        self.assertEqual(sequent_of(made), ((bush(20), bush(20)), bush(40)))


READY = {
    "apply_over": "A / B, B => A", "apply_under": "B, B > A => A", "pair_up": "A, B => A * B",
    "lift_over": "A => B / (A > B)", "lift_under": "A => (B / A) > B",
    "chain_over": "A / B, B / C => A / C", "chain_under": "A > B, B > C => A > C",
    "divide_over": "A / B => (A / C) / (B / C)", "divide_under": "B > A => (C > B) > (C > A)",
    "curry_over": "A / (B * C) => (A / C) / B", "uncurry_over": "(A / C) / B => A / (B * C)",
    "curry_under": "(B * C) > A => C > (B > A)", "uncurry_under": "C > (B > A) => (B * C) > A",
    "swap_over": "(B > A) / C => B > (A / C)", "swap_under": "B > (A / C) => (B > A) / C",
    "regroup_left": "A * (B * C) => (A * B) * C", "regroup_right": "(A * B) * C => A * (B * C)",
}
# The value of each, with "of" for an entry, "to" for a table over all values of
# a kind, and pairs; as Python over values told by their structure.
MEANINGS = {
    "apply_over": lambda k, f, x: k.of(f, x),
    "apply_under": lambda k, x, f: k.of(f, x),
    "pair_up": lambda k, x, y: (x, y),
    "lift_over": lambda k, x: k.to(">ab", lambda f: k.of(f, x)),
    "lift_under": lambda k, x: k.to("/ba", lambda f: k.of(f, x)),
    "chain_over": lambda k, f, g: k.to("c", lambda x: k.of(f, k.of(g, x))),
    "chain_under": lambda k, f, g: k.to("a", lambda x: k.of(g, k.of(f, x))),
    "divide_over": lambda k, f: k.to("/bc", lambda g: k.to("c", lambda x: k.of(f, k.of(g, x)))),
    "divide_under": lambda k, f: k.to(">cb", lambda g: k.to("c", lambda x: k.of(f, k.of(g, x)))),
    "curry_over": lambda k, f: k.to("b", lambda y: k.to("c", lambda z: k.of(f, (y, z)))),
    "uncurry_over": lambda k, g: k.to("*bc", lambda p: k.of(k.of(g, p[0]), p[1])),
    "curry_under": lambda k, f: k.to("c", lambda z: k.to("b", lambda y: k.of(f, (y, z)))),
    "uncurry_under": lambda k, g: k.to("*bc", lambda p: k.of(k.of(g, p[1]), p[0])),
    "swap_over": lambda k, h: k.to("b", lambda y: k.to("c", lambda z: k.of(k.of(h, z), y))),
    "swap_under": lambda k, h: k.to("c", lambda z: k.to("b", lambda y: k.of(k.of(h, y), z))),
    "regroup_left": lambda k, p: ((p[0], p[1][0]), p[1][1]),
    "regroup_right": lambda k, p: (p[0][0], (p[0][1], p[1])),
}


class Telling:
    """Values told by their structure: numbers, pairs, and tables as dicts kept as tuples."""

    def __init__(self, kinds, world):
        self.kinds = kinds
        self.world = world

    def kind(self, name):
        return self.kinds[name] if len(name) == 1 else (name[0], self.kinds[name[1]], self.kinds[name[2]])

    def tell(self, kind, value):
        """The structure of a value of the kind."""
        if isinstance(kind, str):
            return value
        sign, first, second = kind
        if sign == "*":
            many = count(second, self.world)
            return (self.tell(first, value // many), self.tell(second, value % many))
        result, argument = (first, second) if sign == "/" else (second, first)
        return ("table",) + tuple(
            (self.tell(argument, x), self.tell(result, entry(kind, self.world, value, x)))
            for x in range(count(argument, self.world)))

    def of(self, table, argument):
        (found,) = [value for place, value in table[1:] if place == argument]
        return found

    def to(self, name, body):
        kind = self.kind(name)
        told = [self.tell(kind, value) for value in range(count(kind, self.world))]
        return ("table",) + tuple((argument, body(argument)) for argument in told)


class ReadyTest(Case):

    def wanted(self, name, kinds):
        text = READY[name]
        for letter, kind in zip("ABC", kinds):
            text = text.replace(letter, f"({letter.lower()}0)")
        premises, goal = parse_sequent(text)
        table = {f"{letter}0": kind for letter, kind in zip("abc", kinds)}

        def put(kind):
            return table[kind] if isinstance(kind, str) else (kind[0], put(kind[1]), put(kind[2]))

        return tuple(put(kind) for kind in premises), put(goal)

    def judge(self, name, kinds, worlds=()):
        made = getattr(ways, name)(*kinds)
        self.assertIsNone(first_fault(made))
        self.assertEqual(sequent_of(made), self.wanted(name, kinds), name)
        met = 0
        for world in worlds:
            if largest_count(made, world) > 3000:
                continue
            telling = Telling(dict(zip("abc", kinds)), world)
            for values in choices(made[1], world, random.Random(4), 15):
                told = [telling.tell(kind, value) for kind, value in zip(made[1], values)]
                got = telling.tell(made[2], value_of(made, world, values))
                self.assertEqual(got, MEANINGS[name](telling, *told), (name, kinds, world, values))
                met += 1
        return met

    def many(self, name):
        return 2 if "C" not in READY[name] else 3

    def test_there_are_seventeen(self):
        self.assertEqual(len(READY), 17)
        self.assertEqual(set(READY), set(MEANINGS))

    def test_interface_example(self):
        self.same(format_sequent(sequent_of(ways.curry_under("a", "b", "c"))), "(b * c) > a => c > (b > a)")

    def test_atoms(self):
        for name in READY:
            kinds = ("a", "b", "c")[:self.many(name)]
            met = self.judge(name, kinds, ({"a": 2, "b": 2, "c": 2}, {"a": 2, "b": 3, "c": 2}, {"a": 3, "b": 2, "c": 1},
                                           {"a": 2, "b": 1, "c": 3}, {"a": 1, "b": 2, "c": 2}))
            self.assertGreater(met, 5, name)

    def test_equal_atoms(self):
        for name in READY:
            self.judge(name, ("n", "n", "n")[:self.many(name)], ({"n": 2},))
            self.judge(name, ("n.1", "n.2", "n")[:self.many(name)], ({"n": 2},))

    def test_fractions_and_pairs(self):
        world = {"a": 2, "b": 2, "c": 2, "u": 1}
        parts = ("a", "u", ("/", "a", "u"), (">", "u", "b"), ("*", "u", "a"), ("*", "a", "b"), ("/", "a", "b"),
                 (">", "b", "a"), ("/", "u", "a"))
        rng = random.Random(5)
        for name in READY:
            met = 0
            for _ in range(40):
                kinds = tuple(rng.choice(parts) for _ in range(self.many(name)))
                met += self.judge(name, kinds, (world,))
            self.assertGreater(met, 20, name)

    def test_kinds_of_forty_atoms(self):
        """The largest that fit, and one atom more."""
        for name, sizes in (
                ("apply_over", (20, 20)), ("apply_under", (20, 20)), ("pair_up", (20, 20)), ("lift_over", (10, 15)),
                ("lift_under", (10, 15)), ("chain_over", (20, 10, 10)), ("chain_under", (10, 10, 20)),
                ("divide_over", (10, 10, 10)), ("divide_under", (10, 10, 10)), ("curry_over", (20, 10, 10)),
                ("uncurry_over", (20, 10, 10)), ("curry_under", (20, 10, 10)), ("uncurry_under", (20, 10, 10)),
                ("swap_over", (20, 10, 10)), ("swap_under", (20, 10, 10)), ("regroup_left", (20, 10, 10)),
                ("regroup_right", (20, 10, 10))):
            self.judge(name, tuple(bush(size) for size in sizes))
            self.judge(name, tuple(comb(size) for size in sizes))
            for place in range(len(sizes)):
                more = tuple(bush(size + (place == other)) for other, size in enumerate(sizes))
                self.refuses(SizeError, getattr(ways, name), *more)

    def test_eighty_atoms(self):
        # Every kind has at most 40 atoms, but there are more than 80 in all.
        self.judge("chain_over", (bush(14), bush(14), bush(12)))
        self.refuses(SizeError, ways.chain_over, bush(14), bush(14), bush(13))
        self.refuses(SizeError, ways.chain_under, bush(14), bush(14), bush(13))
        self.judge("chain_under", (bush(14), bush(14), bush(12)))

    def test_very_large_kinds(self):
        for name in READY:
            self.refuses(SizeError, getattr(ways, name), *(bush(40),) * self.many(name))

    def test_kinds_with_signs(self):
        a, b, c = parse_kind("n > s"), parse_kind("s / n"), parse_kind("n * n.1")
        for name in READY:
            self.judge(name, (a, b, c)[:self.many(name)])
            self.judge(name, (c, a, b)[:self.many(name)])
