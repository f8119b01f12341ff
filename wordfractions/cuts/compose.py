"""Composing: the cut of one derivation into another one, without the cut."""

from wordfractions.cuts.joining import join_at
from wordfractions.errors import FitError, SizeError
from wordfractions.sequents.faults import is_cut_free
from wordfractions.sequents.sequent import is_within_bounds


def compose(first, second, at):
    """Return a derivation with the first one in the place of the second one's premise at `at`."""
    premises, goal = second[1], second[2]
    if not is_cut_free(first) or not is_cut_free(second):
        raise FitError("one of the derivations has a cut")
    if not 0 <= at < len(premises) or premises[at] != first[2]:
        raise FitError("the goal of the first derivation is no premise at this place")
    if not is_within_bounds((premises[:at] + first[1] + premises[at + 1:], goal)):
        raise SizeError("a sequent with too many premises or atoms")
    return join_at(first, second, at)
