"""[12], [45]: mirrors of derivations."""

import random

from tests.helper import Case, apply_over, apply_under, comb, identity
from tests.test_derivation_rows import chain
from tests.worlds import WORLDS, choices, count, entry, grown, largest_count, value_of
from wordfractions.kinds.shape import mirror_kind
from wordfractions.middles.mirror import mirror_derivation
from wordfractions.sequents.faults import first_fault, is_cut_free
from wordfractions.sequents.rules import make_axiom, make_step, sequent_of
from wordfractions.sequents.sequent import mirror_sequent

N, S = make_axiom("n"), make_axiom("s")
VP = (">", "n", "s")
WIDE = make_step("pair right", 2, (apply_over("s", "n"), make_step("pair right", 1, (N, apply_under("n", "s")))))


def mirrored_value(kind, world, value):
    """The value of the mirror of the kind that does the same as this value."""
    if isinstance(kind, str):
        return value
    sign, first, second = kind
    if sign == "*":
        left, right = divmod(value, count(second, world))
        return mirrored_value(second, world, right) * count(first, world) + mirrored_value(first, world, left)
    result, argument = (first, second) if sign == "/" else (second, first)
    base, made = count(result, world), 0
    for place in range(count(argument, world)):
        digit = mirrored_value(result, world, entry(kind, world, value, place))
        made += digit * base ** mirrored_value(argument, world, place)
    return made


class MirrorTest(Case):

    def judge(self, derivation):
        made = mirror_derivation(derivation)
        self.assertIsNone(first_fault(made, allow_cuts=True))
        self.same(sequent_of(made), mirror_sequent(sequent_of(derivation)))
        self.same(mirror_derivation(made), derivation)
        return made

    def test_interface_example(self):
        self.same(mirror_derivation(apply_under("s", "n")), (
            "over left", (("/", "s", "n"), "n"), "s", 0, 1,
            (("axiom", ("n",), "n", 0, 0, ()), ("axiom", ("s",), "s", 0, 0, ()))))

    def row(self, step, rule, at, parts):
        """The step of the mirror has this rule, this place, and the mirrors of these parts."""
        made = self.judge(step)
        self.same((made[0], made[3], made[4]), (rule, at, step[4]))
        self.same(made[5], tuple(mirror_derivation(part) for part in parts))

    def test_each_row(self):
        self.row(N, "axiom", 0, ())
        self.row(make_axiom("n.3"), "axiom", 0, ())
        self.row(make_step("over right", 0, (WIDE,)), "under right", 0, (WIDE,))
        self.row(make_step("under right", 0, (WIDE,)), "over right", 0, (WIDE,))
        self.row(make_step("pair right", 5, (WIDE, S)), "pair right", 1, (S, WIDE))
        self.row(make_step("pair right", 1, (S, WIDE)), "pair right", 5, (WIDE, S))
        for at in range(5):
            argument = apply_over("n", "s")
            # 5 premises, of which one becomes a fraction with 2 more.
            self.row(make_step("over left", at, (argument, WIDE)), "under left", 6 - at, (argument, WIDE))
            self.row(make_step("under left", at + 2, (argument, WIDE)), "over left", 6 - at - 2, (argument, WIDE))
        for at in range(4):
            self.row(make_step("pair left", at, (WIDE,)), "pair left", 3 - at, (WIDE,))
        for at, kind in enumerate(WIDE[1]):
            first = make_step("over left", 0, (apply_over("n", "s"), identity(kind)))
            self.assertEqual(len(first[1]), 3)
            self.row(make_step("cut", at, (first, WIDE)), "cut", 7 - at - 3, (first, WIDE))

    def test_by_chance(self):
        rng = random.Random(1)
        cuts = 0
        for derivation in grown(rng, 250, 7, cuts=True):
            self.judge(derivation)
            cuts += not is_cut_free(derivation)
        self.assertGreater(cuts, 50)

    def test_values(self):
        rng = random.Random(2)
        met = 0
        for derivation in grown(rng, 150, 5, cuts=True):
            made = mirror_derivation(derivation)
            for world in WORLDS:
                if largest_count(derivation, world) > 2000:
                    continue
                for values in choices(derivation[1], world, rng, 3):
                    others = tuple(mirrored_value(kind, world, value)
                                   for kind, value in zip(derivation[1], values))[::-1]
                    wanted = mirrored_value(derivation[2], world, value_of(derivation, world, values))
                    self.assertEqual(value_of(made, world, others), wanted)
                    met += 1
        self.assertGreater(met, 1000)

    def test_identities(self):
        for kind in (VP, ("/", VP, "n"), ("*", VP, ("*", "n", "s")), comb(40), comb(40, sign=">")):
            made = self.judge(identity(kind))
            if "*" not in repr(kind):
                self.same(made, identity(mirror_kind(kind)))

    def test_the_largest(self):
        self.judge(chain(199))
        long = N
        for _ in range(39):
            long = make_step("over left", 0, (long, N))
        self.judge(long)
