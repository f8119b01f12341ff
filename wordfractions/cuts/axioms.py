"""The axioms of a derivation, told and replaced."""

from wordfractions.sequents.parts import steps_from_parts
from wordfractions.sequents.rules import make_step


def axiom_atoms(derivation):
    """Return the list of the atoms of the axioms, from the left."""
    return [step[2] for step, _ in steps_from_parts(derivation) if step[0] == "axiom"]


def replace_axioms(derivation, others):
    """Return the derivation with these others in the place of its axioms, from the left.

    Every other step is made again, by the same rule and with the same at.
    """
    made = []
    used = 0
    for step, places in steps_from_parts(derivation):
        if step[0] == "axiom":
            made.append(others[used])
            used += 1
        else:
            made.append(make_step(step[0], step[3], tuple([made[place] for place in places])))
    return made[-1]
