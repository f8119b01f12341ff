"""Values reckoned in the plain way of [39] to [42], and derivations made by chance, cuts too."""

import itertools
import math

from tests.helper import identity
from wordfractions.errors import WordsError
from wordfractions.sequents.rules import make_axiom, make_step

WORLDS = ({"n": 2, "s": 2}, {"n": 2, "s": 3}, {"n": 3, "s": 2}, {"n": 1, "s": 2}, {"n": 2}, {"n": 1, "s": 3}, {})


def count(kind, world):
    """The number of values."""
    if isinstance(kind, str):
        return world.get(kind.split(".")[0], 1)
    sign, first, second = kind
    first, second = count(first, world), count(second, world)
    if sign == "*":
        return min(first * second, 10 ** 30)
    base, exponent = (first, second) if sign == "/" else (second, first)
    return min(base ** min(exponent, 100), 10 ** 30)


def largest_count(step, world):
    """The largest number of values of a premise or goal of a step."""
    here = max(count(kind, world) for kind in step[1] + (step[2],))
    return max([here] + [largest_count(part, world) for part in step[5]])


def parts_of_fraction(kind):
    """The result and the argument."""
    sign, first, second = kind
    return (first, second) if sign == "/" else (second, first)


def entry(kind, world, value, argument):
    """The entry of a fraction's value."""
    base = count(parts_of_fraction(kind)[0], world)
    return value // base ** argument % base


def value_of(step, world, values):
    """The value of a derivation, by the rows of [42]."""
    rule, premises, goal, at, width, parts = step
    if rule == "axiom":
        return values[0]
    if rule in ("over right", "under right"):
        result, argument = parts_of_fraction(goal)
        base = count(result, world)
        if base == 1:
            return 0
        more = [values + (b,) if rule == "over right" else (b,) + values for b in range(count(argument, world))]
        return sum(base ** b * value_of(parts[0], world, row) for b, row in enumerate(more))
    if rule == "pair right":
        first, second = value_of(parts[0], world, values[:at]), value_of(parts[1], world, values[at:])
        return first * count(goal[2], world) + second
    if rule == "pair left":
        many = count(premises[at][2], world)
        opened = (values[at] // many, values[at] % many)
        return value_of(parts[0], world, values[:at] + opened + values[at + 1:])
    if rule == "over left":
        ahead, fraction, stretch, behind = (
            values[:at], values[at], values[at + 1:at + 1 + width], values[at + 1 + width:])
    elif rule == "under left":
        ahead, stretch, fraction, behind = values[:at - width], values[at - width:at], values[at], values[at + 1:]
    else:
        ahead, stretch, behind = values[:at], values[at:at + width], values[at + width:]
    middle = value_of(parts[0], world, stretch)
    if rule != "cut":
        middle = entry(premises[at], world, fraction, middle)
    return value_of(parts[1], world, ahead + (middle,) + behind)


def choices(premises, world, rng, most):
    """All choices of values for the premises, or some of them if there are many."""
    counts = [count(kind, world) for kind in premises]
    if math.prod(counts) <= most:
        return list(itertools.product(*[range(many) for many in counts]))
    return [tuple(rng.randrange(many) for many in counts) for _ in range(most)]


def same_values(case, one, other, rng, most=12, worlds=WORLDS):
    """The two derivations of one sequent have one value, in every world that is small enough."""
    case.assertEqual(one[1:3], other[1:3])
    for world in worlds:
        if max(largest_count(one, world), largest_count(other, world)) > 10 ** 4:
            continue
        for values in choices(one[1], world, rng, most):
            case.assertEqual(value_of(one, world, values), value_of(other, world, values), (one, other, world))


class Grower:
    """Makes derivations by chance."""

    def __init__(self, rng, atoms=("n", "s"), cuts=False):
        self.rng = rng
        self.atoms = atoms
        self.cuts = cuts

    def derive(self, many):
        """A derivation with about so many axioms."""
        if many == 1:
            derivation = make_axiom(self.rng.choice(self.atoms))
        else:
            ahead = self.rng.randint(1, many - 1)
            derivation = self.two_parts(self.derive(ahead), self.derive(many - ahead))
        for _ in range(self.rng.randint(0, 2)):
            derivation = self.one_part(derivation)
        return derivation

    def two_parts(self, first, second):
        rule = self.rng.choice(("pair right", "over left", "under left", "over left", "under left", "cut"))
        if rule == "cut":
            return self.cut(first, second) if self.cuts else self.two_parts(first, second)
        at = len(first[1])
        if rule == "over left":
            at = self.rng.randrange(len(second[1]))
        if rule == "under left":
            at += self.rng.randrange(len(second[1]))
        return make_step(rule, at, (first, second))

    def one_part(self, derivation):
        rule = self.rng.choice(("over right", "under right", "pair left", "pair left"))
        many = len(derivation[1])
        if many == 1:
            return derivation
        return make_step(rule, self.rng.randrange(many - 1) if rule == "pair left" else 0, (derivation,))

    def cut(self, first, second):
        """A cut, after the second derivation was made to have the kind among its premises."""
        middle = first[2]
        wide = identity(middle)
        for _ in range(self.rng.randint(0, 2)):
            wide = self.one_part(wide)
        wide = self.rng.choice((
            lambda: make_step("pair right", 1, (identity(middle), second)),
            lambda: make_step("pair right", len(second[1]), (second, identity(middle))),
            lambda: make_step("over left", self.rng.randrange(len(second[1])), (identity(middle), second)),
            lambda: make_step("under left", 1 + self.rng.randrange(len(second[1])), (identity(middle), second)),
            lambda: make_step("over left", 0, (second, identity(middle))),
            lambda: wide,
        ))()
        places = [place for place, kind in enumerate(wide[1]) if kind == middle]
        if not places:
            return make_step("cut", 0, (first, identity(middle)))
        return make_step("cut", self.rng.choice(places), (first, wide))


def grown(rng, many, size, **words):
    """So many derivations made by chance, each with up to so many axioms."""
    grower = Grower(rng, **words)
    found = []
    while len(found) < many:
        try:
            found.append(grower.derive(rng.randint(1, size)))
        except WordsError:
            # Too large: another one is made.
            pass
    return found
