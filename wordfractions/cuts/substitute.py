"""A kind substituted for an atom in a derivation."""

from wordfractions.cuts.axioms import axiom_atoms, replace_axioms
from wordfractions.cuts.identity import identity
from wordfractions.errors import FitError
from wordfractions.sequents.faults import is_cut_free
from wordfractions.sequents.rules import make_axiom


def substitute(derivation, atom, kind):
    """Return the derivation with the kind wherever this very atom stands."""
    if not is_cut_free(derivation):
        raise FitError("the derivation has a cut")
    # Steps grow towards the last one, so it is beyond a bound if any step is.
    return replace_axioms(derivation, [
        identity(kind) if other == atom else make_axiom(other) for other in axiom_atoms(derivation)
    ])
