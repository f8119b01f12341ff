"""Values of derivations in a world."""

from wordfractions.errors import FitError, SizeError
from wordfractions.kinds.shape import is_whole
from wordfractions.meanings.values import count_values, digit_at, number_of_digits, result_and_argument
from wordfractions.sequents.parts import steps_from_parts

MOST_STEP_VALUES = 10 ** 4
MOST_KNOWN = 10 ** 5


def derivation_value(derivation, world, values):
    """Return the value of the derivation for these values of its premises."""
    refuse_large_steps(derivation, world)
    refuse_other_values(values, derivation[1], world)
    tasks = [_task_of(step, places, world) for step, places in steps_from_parts(derivation)]
    return _evaluate(tasks, len(tasks) - 1, values, {})


def refuse_large_steps(derivation, world):
    """Raise SizeError if a premise or the goal of some step has too many values."""
    for step, _ in steps_from_parts(derivation):
        for kind in (*step[1], step[2]):
            if count_values(kind, world) > MOST_STEP_VALUES:
                raise SizeError("a premise or goal with too many values")


def refuse_other_values(values, kinds, world):
    """Raise FitError unless these are as many values as kinds, each one of its kind."""
    if len(values) != len(kinds):
        raise FitError("not as many values as kinds")
    for value, kind in zip(values, kinds):
        if not is_whole(value) or not 0 <= value < count_values(kind, world):
            raise FitError("a value that its kind does not have")


def _task_of(step, places, world):
    """Return what is needed to evaluate the step: (rule, at, width, base, many, places).

    The base is that of a fraction's digits, or the number of values of a
    pair's second part; many is the number of the digits that are to be found.
    """
    rule, premises, goal, at, width, _ = step
    base, many = 1, 0
    if rule in ("over right", "under right"):
        result, argument = result_and_argument(goal)
        base = count_values(result, world)
        # With one value of the result there is nothing to find.
        many = count_values(argument, world) if base > 1 else 0
    elif rule in ("over left", "under left"):
        base = count_values(result_and_argument(premises[at])[0], world)
    elif rule == "pair right":
        base = count_values(goal[2], world)
    elif rule == "pair left":
        base = count_values(premises[at][2], world)
    return (rule, at, width, base, many, places)


def _evaluate(tasks, number, values, known):
    """Return the value of the task with this number, and keep it."""
    rule, at, width, base, many, places = tasks[number]
    if rule == "axiom":
        return values[0]
    # A part beside a bound value does not depend on it: without what is known
    # it would be evaluated again for each of that value's choices.
    key = (number, values)
    if key in known:
        return known[key]
    if rule in ("over right", "under right"):
        digits = []
        for bound in range(many):
            more = values + (bound,) if rule == "over right" else (bound,) + values
            digits.append(_evaluate(tasks, places[0], more, known))
        value = number_of_digits(digits, base)
    elif rule == "pair right":
        first = _evaluate(tasks, places[0], values[:at], known)
        value = first * base + _evaluate(tasks, places[1], values[at:], known)
    elif rule == "pair left":
        opened = values[:at] + divmod(values[at], base) + values[at + 1:]
        value = _evaluate(tasks, places[0], opened, known)
    else:
        start = _start_of_first(rule, at, width)
        found = _evaluate(tasks, places[0], values[start:start + width], known)
        if rule != "cut":
            found = digit_at(values[at], base, found)
        ahead = values[:min(start, at)]
        behind = values[max(start + width, at + 1):]
        value = _evaluate(tasks, places[1], (*ahead, found, *behind), known)
    if len(known) >= MOST_KNOWN:
        # Tables within tables may have very many entries, too many to keep.
        known.clear()
    known[key] = value
    return value


def _start_of_first(rule, at, width):
    """Return the place of the first premise that belongs to the first part."""
    if rule == "over left":
        return at + 1
    return at - width if rule == "under left" else at
