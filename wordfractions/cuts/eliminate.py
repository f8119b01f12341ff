"""Cuts taken out of a derivation."""

from wordfractions.cuts.joining import join_at
from wordfractions.sequents.parts import steps_from_parts


def eliminate_cuts(derivation):
    """Return a derivation without cuts of the same sequent with the same value."""
    made = []
    for step, places in steps_from_parts(derivation):
        parts = tuple([made[place] for place in places])
        if step[0] == "cut":
            made.append(join_at(parts[0], parts[1], step[3]))
        else:
            # The parts' sequents are what they were, so all else is, too.
            made.append(step[:5] + (parts,))
    return made[-1]
