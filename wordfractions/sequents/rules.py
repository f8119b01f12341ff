"""The rules, and the steps that they make."""

from wordfractions.errors import FitError, SizeError
from wordfractions.kinds.shape import MOST_ATOMS, is_atom, size_of
from wordfractions.sequents.sequent import is_within_bounds

RULES = (
    "axiom", "over right", "under right", "pair right", "over left", "under left", "pair left", "cut",
)
LEFT_RULES = ("over left", "under left", "pair left")


def sequent_of(derivation):
    """Return the sequent of the derivation's last step."""
    return (derivation[1], derivation[2])


def make_axiom(atom):
    """Return the axiom of an atom or a numbered atom."""
    if not is_atom(atom):
        raise FitError("an axiom needs an atom")
    return ("axiom", (atom,), atom, 0, 0, ())


def _require(fits):
    if not fits:
        raise FitError("the rule does not fit the place and the parts")


# Each of the following functions takes `at` and the sequents of the parts, and
# returns the premises, the goal and the width of the step by its rule.

def _over_right(at, sequents):
    premises, goal = sequents[0]
    _require(at == 0 and len(premises) > 1)
    return premises[:-1], ("/", goal, premises[-1]), 0


def _under_right(at, sequents):
    premises, goal = sequents[0]
    _require(at == 0 and len(premises) > 1)
    return premises[1:], (">", premises[0], goal), 0


def _pair_right(at, sequents):
    (premises, goal), (others, other_goal) = sequents
    _require(at == len(premises))
    return premises + others, ("*", goal, other_goal), 0


def _over_left(at, sequents):
    (argument, argument_goal), (premises, goal) = sequents
    _require(0 <= at < len(premises))
    fraction = ("/", premises[at], argument_goal)
    return premises[:at] + (fraction,) + argument + premises[at + 1:], goal, len(argument)


def _under_left(at, sequents):
    (argument, argument_goal), (premises, goal) = sequents
    place = at - len(argument)
    _require(0 <= place < len(premises))
    fraction = (">", argument_goal, premises[place])
    return premises[:place] + argument + (fraction,) + premises[place + 1:], goal, len(argument)


def _pair_left(at, sequents):
    premises, goal = sequents[0]
    _require(0 <= at and at + 1 < len(premises))
    pair = ("*", premises[at], premises[at + 1])
    return premises[:at] + (pair,) + premises[at + 2:], goal, 0


def _cut(at, sequents):
    (inner, middle), (premises, goal) = sequents
    _require(0 <= at < len(premises) and premises[at] == middle)
    return premises[:at] + inner + premises[at + 1:], goal, len(inner)


_PART_COUNTS = {
    "over right": 1, "under right": 1, "pair right": 2, "over left": 2, "under left": 2, "pair left": 1, "cut": 2,
}

_MAKERS = {
    "over right": _over_right,
    "under right": _under_right,
    "pair right": _pair_right,
    "over left": _over_left,
    "under left": _under_left,
    "pair left": _pair_left,
    "cut": _cut,
}


def build_step(rule, at, parts):
    """Return the step by the rule, over as many parts as it takes, of any size."""
    maker = _MAKERS[rule]
    premises, goal, width = maker(at, [sequent_of(part) for part in parts])
    return (rule, premises, goal, at, width, parts)


def make_step(rule, at, parts):
    """Return the step by the rule at this place, over these parts."""
    _require(rule in _MAKERS and len(parts) == _PART_COUNTS[rule])
    for part in parts:
        sequent = sequent_of(part)
        _require(len(sequent[0]) > 0 and is_within_bounds(sequent))
    step = build_step(rule, at, parts)
    if not is_within_bounds(sequent_of(step)):
        raise SizeError("a sequent with too many premises or atoms")
    if max([size_of(kind) for kind in (*step[1], step[2])]) > MOST_ATOMS:
        raise SizeError("a kind with too many atoms")
    return step
