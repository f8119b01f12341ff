"""Which small sequents have derivations."""

from wordfractions.sequents.sequent import balances_differ
from wordfractions.sequents.steps import last_steps


def follows(sequent, known):
    """Tell whether the sequent has a derivation, and keep the answers for it and those met on the way.

    The sequents themselves are the keys of `known`: only kinds of books are
    asked for, and these nest little.
    """
    if sequent not in known:
        known[sequent] = not balances_differ(sequent) and _has_last_step(sequent, known)
    return known[sequent]


def _has_last_step(sequent, known):
    for _, _, _, parts in last_steps(sequent):
        if _all_follow(parts, known):
            return True
    return False


def _all_follow(parts, known):
    for part in parts:
        if not follows(part, known):
            return False
    return True
