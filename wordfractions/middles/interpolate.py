"""Interpolants: a kind in the middle of a derivation."""

from wordfractions.errors import FitError
from wordfractions.sequents.faults import is_cut_free
from wordfractions.sequents.parts import remake_step
from wordfractions.sequents.rules import make_step


def interpolate(derivation, start, stop):
    """Return (kind, inner, outer) of an interpolant of the premises from start to stop."""
    if not is_cut_free(derivation):
        raise FitError("the derivation has a cut")
    if not 0 <= start < stop <= len(derivation[1]):
        raise FitError("no stretch of premises")
    return _find(derivation, start, stop)


# Each of the following functions returns (kind, inner, outer) for the premises
# from start to stop of a step by its rule. It finds those of the parts first.

def _find_axiom(step, start, stop):
    return step[2], step, step


def _find_fraction_right(step, start, stop):
    ahead = 1 if step[0] == "under right" else 0
    kind, inner, outer = _find(step[5][0], start + ahead, stop + ahead)
    return kind, inner, remake_step(step, 0, 0, outer)


def _find_pair_right(step, start, stop):
    at, (first, second) = step[3], step[5]
    if stop <= at:
        kind, inner, outer = _find(first, start, stop)
        return kind, inner, remake_step(step, len(outer[1]), 0, outer)
    if start >= at:
        kind, inner, outer = _find(second, start - at, stop - at)
        return kind, inner, remake_step(step, at, 1, outer)
    first_kind, first_inner, first_outer = _find(first, start, at)
    second_kind, second_inner, second_outer = _find(second, 0, stop - at)
    inner = make_step("pair right", at - start, (first_inner, second_inner))
    outer = make_step("pair right", start + 1, (first_outer, second_outer))
    return ("*", first_kind, second_kind), inner, make_step("pair left", start, (outer,))


def _find_pair_left(step, start, stop):
    at = step[3]
    if start <= at < stop:
        kind, inner, outer = _find(step[5][0], start, stop + 1)
        return kind, remake_step(step, at - start, 0, inner), outer
    behind = 1 if start > at else 0
    kind, inner, outer = _find(step[5][0], start + behind, stop + behind)
    return kind, inner, remake_step(step, _moved(at, start, stop), 0, outer)


def _find_fraction_left(step, start, stop):
    rule, at, width = step[0], step[3], step[4]
    low = at + 1 if rule == "over left" else at - width
    high = low + width
    if low <= start and stop <= high:
        kind, inner, outer = _find(step[5][0], start - low, stop - low)
        return kind, inner, remake_step(step, _moved(at, start, stop), 0, outer)
    first, last = min(low, at), max(high, at + 1)
    if stop <= first or start >= last:
        behind = width if start >= last else 0
        kind, inner, outer = _find(step[5][1], start - behind, stop - behind)
        return kind, inner, remake_step(step, _moved(at, start, stop), 1, outer)
    if start <= first and stop >= last:
        kind, inner, outer = _find(step[5][1], start, stop - width)
        return kind, remake_step(step, at - start, 1, inner), outer
    if rule == "over left":
        return _cross_over(step, start, stop)
    return _cross_under(step, start, stop)


def _moved(at, start, stop):
    """Return the place of a premise when one kind stands for the stretch, in which it is not."""
    return at if start > at else at - (stop - start) + 1


# In the next two functions the stretch has some, but not all, of the fraction
# and of the premises that belong to the first part. What was found for the
# first part, which derives the fraction's argument, is called so, and what was
# found for the second part, which goes on with the result, is called the body.

def _cross_over(step, start, stop):
    at, width = step[3], step[4]
    argument, body = step[5]
    if start <= at:
        body_kind, body_inner, body_outer = _find(body, start, at + 1)
        argument_kind, argument_inner, argument_outer = _find(argument, stop - at - 1, width)
        inner = make_step("over left", at - start, (argument_outer, body_inner))
        outer = make_step("over left", start, (argument_inner, body_outer))
        return ("/", body_kind, argument_kind), make_step("over right", 0, (inner,)), outer
    body_kind, body_inner, body_outer = _find(body, at + 1, stop - width)
    argument_kind, argument_inner, argument_outer = _find(argument, start - at - 1, width)
    inner = make_step("pair right", len(argument_inner[1]), (argument_inner, body_inner))
    outer = make_step("over left", at, (argument_outer, body_outer))
    return ("*", argument_kind, body_kind), inner, make_step("pair left", start, (outer,))


def _cross_under(step, start, stop):
    at, width = step[3], step[4]
    argument, body = step[5]
    low = at - width
    if stop > at:
        body_kind, body_inner, body_outer = _find(body, low, stop - width)
        argument_kind, argument_inner, argument_outer = _find(argument, 0, start - low)
        inner = make_step("under left", len(argument_outer[1]), (argument_outer, body_inner))
        outer = make_step("under left", start, (argument_inner, body_outer))
        return (">", argument_kind, body_kind), make_step("under right", 0, (inner,)), outer
    body_kind, body_inner, body_outer = _find(body, start, low)
    argument_kind, argument_inner, argument_outer = _find(argument, 0, stop - low)
    inner = make_step("pair right", len(body_inner[1]), (body_inner, argument_inner))
    outer = make_step("under left", start + 1 + len(argument_outer[1]), (argument_outer, body_outer))
    return ("*", body_kind, argument_kind), inner, make_step("pair left", start, (outer,))


_FINDERS = {
    "axiom": _find_axiom,
    "over right": _find_fraction_right,
    "under right": _find_fraction_right,
    "pair right": _find_pair_right,
    "over left": _find_fraction_left,
    "under left": _find_fraction_left,
    "pair left": _find_pair_left,
}


def _find(derivation, start, stop):
    finder = _FINDERS[derivation[0]]
    return finder(derivation, start, stop)
