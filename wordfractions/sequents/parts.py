"""Derivations taken to pieces, and steps made again."""

from wordfractions.sequents.rules import build_step


def steps_from_parts(derivation):
    """Return (step, places) for each step, the whole last.

    The steps of the first part come first. The places tell where in this same
    list the step's parts stand, in their order.
    """
    steps = []
    waiting = [derivation]
    # The whole ahead of its parts, and these from the right: read backwards,
    # that is the wanted order.
    while waiting:
        step = waiting.pop()
        steps.append(step)
        waiting.extend(step[5])
    return _with_places(steps[::-1])


def _with_places(steps):
    found = []
    # The places of the steps that are not parts of a later step yet.
    loose = []
    for place, step in enumerate(steps):
        first = len(loose) - len(step[5])
        found.append((step, loose[first:]))
        loose = loose[:first] + [place]
    return found


def remake_step(step, at, number, part):
    """Return the step made again at this place, with this part in the place of the old one."""
    return build_step(step[0], at, step[5][:number] + (part,) + step[5][number + 1:])
