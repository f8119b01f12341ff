"""Two derivations without cuts made one, where they meet in a kind."""

from wordfractions.sequents.parts import remake_step
from wordfractions.sequents.rules import LEFT_RULES


def join_at(first, second, at):
    """Return a derivation without cuts of the sequent of the cut, with its value.

    Neither derivation has a cut, and the goal of the first one is the premise
    at `at` of the second one. No bound is checked.
    """
    # The steps to be made again, the last one first: each with the number of
    # its part that is replaced, and its new place.
    again = []
    while first[0] != "axiom" and second[0] != "axiom":
        if first[0] in LEFT_RULES:
            again.append((first, len(first[5]) - 1, at + first[3]))
            first = first[5][-1]
        elif second[0] in LEFT_RULES and second[3] == at:
            first, second, at = _open_middle(first, second, at)
        else:
            number, place = _place_in_part(second, at)
            again.append((second, number, _place_moved(second, at, len(first[1]))))
            second, at = second[5][number], place
    joined = second if first[0] == "axiom" else first
    for step, number, place in reversed(again):
        joined = remake_step(step, place, number, joined)
    return joined


def _place_in_part(step, place):
    """Return the number of the part in which the premise at this place stands, and its place there."""
    rule, at, width = step[0], step[3], step[4]
    if rule == "over right":
        return 0, place
    if rule == "under right":
        return 0, place + 1
    if rule == "pair right":
        return (0, place) if place < at else (1, place - at)
    if rule == "pair left":
        return 0, place if place < at else place + 1
    # A fraction takes the stretch D for itself, and stands beside it.
    start = at + 1 if rule == "over left" else at - width
    if start <= place < start + width:
        return 0, place - start
    return 1, place if place < at else place - width


def _place_moved(step, place, many):
    """Return the step's new place, when its premise at this place becomes so many premises."""
    return step[3] + many - 1 if place < step[3] else step[3]


def _open_middle(first, second, at):
    """Return two derivations and a place, which joined give the same as these two.

    The last steps of both derivations make the kind in which they meet. The
    derivations that are returned meet in one of its parts, and those of the
    other part are joined already.
    """
    right, left = first[5], second[5]
    if first[0] == "pair right":
        return right[0], join_at(right[1], left[0], at + 1), at
    argument, body = left[0], right[0]
    if first[0] == "over right":
        return join_at(argument, body, len(body[1]) - 1), left[1], at
    return join_at(argument, body, 0), left[1], at - len(argument[1])
