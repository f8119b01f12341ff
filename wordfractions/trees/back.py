"""Trees led back to derivations."""

from wordfractions.cuts.identity import identity
from wordfractions.cuts.joining import join_at
from wordfractions.errors import FitError, SizeError
from wordfractions.sequents.sequent import is_within_bounds
from wordfractions.trees.shape import leaves_of, tree_fault, tree_kind


def tree_derivation(tree):
    """Return a derivation of the tree's kind from its leaves, with the tree's value."""
    if tree_fault(tree) is not None:
        raise FitError("the tree has a fault")
    if not is_within_bounds((leaves_of(tree), tree_kind(tree))):
        raise SizeError("a sequent with too many premises or atoms")
    if tree[0] == "leaf":
        return identity(tree_kind(tree))
    return _derive(tree)


def _derive(tree):
    """Return the derivation of a tree that is no leaf. No bound is checked."""
    derivation = tree[-1]
    # From the right, so that the places of the premises ahead stay as they are.
    for place in reversed(range(len(derivation[1]))):
        subtree = tree[2 + place]
        # Composing with the identity of a leaf would change nothing.
        if subtree[0] != "leaf":
            derivation = join_at(_derive(subtree), derivation, place)
    return derivation
