"""Trees made by chance from derivations made by chance."""

from tests.helper import identity
from tests.worlds import grown
from wordfractions.sequents.rules import sequent_of


def small_derivations(rng, many, size, atoms=("n", "s")):
    """Derivations of one or two premises."""
    found = []
    while len(found) < many:
        found.extend([made for made in grown(rng, 20, size, atoms=atoms) if len(made[1]) <= 2])
    return found[:many]


def plant(rng, derivations, depth):
    """A tree without a fault whose nodes have these derivations, or are leaves or identities."""
    return _over(rng, rng.choice(derivations), derivations, depth)


def _over(rng, derivation, derivations, depth):
    premises, goal = sequent_of(derivation)
    trees = tuple(_for_kind(rng, kind, derivations, depth - 1) for kind in premises)
    return ("unary" if len(premises) == 1 else "binary", goal, *trees, derivation)


def _for_kind(rng, kind, derivations, depth):
    fitting = [made for made in derivations if made[2] == kind]
    if depth <= 0 or not fitting or rng.random() < 0.2:
        if rng.random() < 0.2:
            return ("unary", kind, ("leaf", kind), identity(kind))
        return ("leaf", kind)
    return _over(rng, rng.choice(fitting), derivations, depth)
