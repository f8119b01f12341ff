"""Identities: derivations of a kind from itself."""

from wordfractions.sequents.rules import make_axiom, make_step


def identity(kind):
    """Return the identity of the kind."""
    if isinstance(kind, str):
        return make_axiom(kind)
    sign, first, second = kind
    if sign == "/":
        return make_step("over right", 0, (make_step("over left", 0, (identity(second), identity(first))),))
    if sign == ">":
        return make_step("under right", 0, (make_step("under left", 1, (identity(first), identity(second))),))
    return make_step("pair left", 0, (make_step("pair right", 1, (identity(first), identity(second))),))
