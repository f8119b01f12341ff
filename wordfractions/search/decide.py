"""Every sequent is derived or refused."""

from wordfractions.search.bounds import searched_sequent
from wordfractions.sequents.sequent import balances_differ
from wordfractions.sequents.steps import last_steps
from wordfractions.sequents.text import format_sequent


def decide(sequent):
    """Return ("derived", derivation) or ("refused", table)."""
    answers = {}
    derivation = find_derivation(searched_sequent(sequent), answers)
    if derivation is not None:
        return ("derived", derivation)
    return ("refused", refused_table(answers))


def derivable(sequent):
    """Tell whether the sequent has a derivation."""
    return decide(sequent)[0] == "derived"


def find_derivation(sequent, answers):
    """Return a derivation of the sequent, or None.

    By the text of each sequent that is met, `answers` keeps the sequent, and
    its derivation or None.
    """
    if balances_differ(sequent):
        # Not kept: no table has such an entry.
        return None
    key = format_sequent(sequent)
    if key not in answers:
        answers[key] = (sequent, _first_derivation(sequent, answers))
    return answers[key][1]


def refused_table(answers):
    """Return the closed table of all sequents for which no derivation was found."""
    return tuple([entry for entry, found in answers.values() if found is None])


def _first_derivation(sequent, answers):
    premises, goal = sequent
    for rule, at, width, parts in last_steps(sequent):
        derived = _derive_all(parts, answers)
        if derived is not None:
            return (rule, premises, goal, at, width, derived)
    return None


def _derive_all(parts, answers):
    """Return a tuple of derivations of the parts, or None if one has none."""
    derived = []
    for part in parts:
        derivation = find_derivation(part, answers)
        if derivation is None:
            return None
        derived.append(derivation)
    return tuple(derived)
