"""Mirrors of derivations: left and right exchanged."""

from wordfractions.sequents.parts import steps_from_parts
from wordfractions.sequents.rules import make_axiom, make_step

_MIRRORED_RULES = {
    "over right": "under right", "under right": "over right", "over left": "under left", "under left": "over left",
    "pair left": "pair left", "cut": "cut",
}


def mirror_derivation(derivation):
    """Return the mirror of the derivation."""
    made = []
    for step, places in steps_from_parts(derivation):
        made.append(_mirror_step(step, [made[place] for place in places]))
    return made[-1]


def _mirror_step(step, parts):
    """Return the mirror of the step, over the mirrors of its parts."""
    rule, premises, goal, at, width, _ = step
    if rule == "axiom":
        return make_axiom(goal)
    if rule == "pair right":
        return make_step(rule, len(premises) - at, tuple(reversed(parts)))
    return make_step(_MIRRORED_RULES[rule], _mirror_place(rule, len(premises), at, width), tuple(parts))


def _mirror_place(rule, many, at, width):
    if rule in ("over right", "under right"):
        return 0
    return many - at - width if rule == "cut" else many - 1 - at
