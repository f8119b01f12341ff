"""What several tests use: judging errors, and derivations made in a plain way."""

import unittest

from wordfractions.errors import FitError, WordsError
from wordfractions.sequents.rules import make_axiom, make_step, sequent_of
from wordfractions.sequents.steps import last_steps


class Case(unittest.TestCase):
    """A test case that asks for the very class of an error."""

    def refuses(self, error, call, *arguments, **fields):
        """The call raises just this error, with these fields."""
        with self.assertRaises(WordsError) as caught:
            call(*arguments)
        self.assertIs(type(caught.exception), error)
        self.assertIsInstance(caught.exception, ValueError)
        for name, value in fields.items():
            self.assertEqual(getattr(caught.exception, name), value)

    def same(self, got, wanted):
        """The values are equal, and of the same make throughout."""
        self.assertEqual(got, wanted)
        self.assertEqual(repr(got), repr(wanted))


def comb(size, atom="n", sign="/", left=True):
    """A kind of so many atoms that nests to one side only."""
    kind = atom
    for _ in range(size - 1):
        kind = (sign, kind, atom) if left else (sign, atom, kind)
    return kind


def bush(size, atom="n", sign="*"):
    """A kind of so many atoms that nests as little as possible."""
    if size == 1:
        return atom
    half = size // 2
    return (sign, bush(half, atom, sign), bush(size - half, atom, sign))


def identity(kind):
    """A derivation of kind => kind."""
    if isinstance(kind, str):
        return make_axiom(kind)
    sign, first, second = kind
    if sign == "/":
        return make_step("over right", 0, (make_step("over left", 0, (identity(second), identity(first))),))
    if sign == ">":
        return make_step("under right", 0, (make_step("under left", 1, (identity(first), identity(second))),))
    return make_step("pair left", 0, (make_step("pair right", 1, (identity(first), identity(second))),))


def apply_under(a, b):
    """A derivation of b, b > a => a."""
    return make_step("under left", 1, (identity(b), identity(a)))


def apply_over(a, b):
    """A derivation of a / b, b => a."""
    return make_step("over left", 0, (identity(b), identity(a)))


def stub(premises, goal, parts=()):
    """Something of the shape of a derivation that is none."""
    return ("no rule", tuple(premises), goal, -7, 99, parts)


def derivations(sequent):
    """All derivations without cuts of a small sequent."""
    found = []
    for rule, at, _, parts in last_steps(sequent):
        if rule == "axiom":
            found.append(make_axiom(sequent[1]))
            continue
        rows = [()]
        for part in parts:
            rows = [row + (derivation,) for row in rows for derivation in derivations(part)]
        found.extend([make_step(rule, at, row) for row in rows])
    return found


def all_derivations(atoms, most):
    """All derivations without cuts with at most so many atoms, made forwards: {sequent: derivations}."""
    by_size = {size: [] for size in range(most + 1)}
    by_size[2] = [make_axiom(atom) for atom in atoms]
    for size in range(2, most + 1):
        for ahead in range(2, size - 1):
            for first in by_size[ahead]:
                for second in by_size[size - ahead]:
                    by_size[size].extend(_fitting(("pair right", "over left", "under left"), (first, second)))
        waiting = list(by_size[size])
        while waiting:
            made = _fitting(("over right", "under right", "pair left"), (waiting.pop(),))
            by_size[size].extend(made)
            waiting.extend(made)
    found = {}
    for derivations_of_size in by_size.values():
        for derivation in derivations_of_size:
            found.setdefault(sequent_of(derivation), []).append(derivation)
    return found


def _fitting(rules, parts):
    """All steps by these rules over these parts."""
    found = []
    for rule in rules:
        for at in range(sum(len(part[1]) for part in parts) + 1):
            try:
                found.append(make_step(rule, at, parts))
            except FitError:
                pass
    return found


def order_key(derivation):
    """What puts the derivations of a sequent into the order of [28]."""
    steps = [step[:3] for step in last_steps(sequent_of(derivation))]
    place = steps.index((derivation[0], derivation[3], derivation[4]))
    return (place,) + tuple(order_key(part) for part in derivation[5])
