"""Derivations walked and judged."""

from wordfractions.errors import FitError, SizeError
from wordfractions.sequents.rules import make_axiom, make_step


def walk_steps(derivation):
    """Yield (path, step) for each step, a step ahead of its parts."""
    waiting = [((), derivation)]
    while waiting:
        path, step = waiting.pop()
        yield (path, step)
        parts = step[5]
        for place in reversed(range(len(parts))):
            waiting.append((path + (place,), parts[place]))


def _is_right(step):
    rule, goal, at, parts = step[0], step[2], step[3], step[5]
    try:
        made = make_axiom(goal) if rule == "axiom" else make_step(rule, at, parts)
    except (FitError, SizeError):
        return False
    return made == step


def first_fault(derivation, *, allow_cuts=False):
    """Return the path of the first fault, or None if there is none."""
    for path, step in walk_steps(derivation):
        if step[0] == "cut" and allow_cuts is not True:
            return path
        if not _is_right(step):
            return path
    return None


def count_steps(derivation):
    """Return the number of steps, each counted as often as it stands."""
    return len(list(walk_steps(derivation)))


def is_cut_free(derivation):
    """Tell whether no step is a cut."""
    return all([step[0] != "cut" for _, step in walk_steps(derivation)])
