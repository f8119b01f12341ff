"""Numbered derivations: every axiom has an atom of its own."""

from wordfractions.cuts.axioms import axiom_atoms, replace_axioms
from wordfractions.errors import FitError
from wordfractions.kinds.shape import base_of, has_numbers
from wordfractions.sequents.faults import is_cut_free
from wordfractions.sequents.parts import steps_from_parts
from wordfractions.sequents.rules import make_axiom


def number_axioms(derivation):
    """Return the numbered form of the derivation."""
    if not is_cut_free(derivation):
        raise FitError("the derivation has a cut")
    # Without cuts every kind stands within one of the last sequent.
    if any([has_numbers(kind) for kind in (*derivation[1], derivation[2])]):
        raise FitError("the derivation has a numbered atom")
    return replace_axioms(derivation, [
        make_axiom(f"{atom}.{number}") for number, atom in enumerate(axiom_atoms(derivation), start=1)
    ])


def unnumber_kind(kind):
    """Return the kind with each numbered atom replaced by its base."""
    if isinstance(kind, str):
        return base_of(kind)
    sign, first, second = kind
    return (sign, unnumber_kind(first), unnumber_kind(second))


def unnumber(derivation):
    """Return the derivation with every kind in it unnumbered."""
    made = []
    for (rule, premises, goal, at, width, _), places in steps_from_parts(derivation):
        parts = tuple([made[place] for place in places])
        plain = tuple([unnumber_kind(kind) for kind in premises])
        made.append((rule, plain, unnumber_kind(goal), at, width, parts))
    return made[-1]
