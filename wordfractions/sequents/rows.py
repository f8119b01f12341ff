"""The texts of derivations, written and read row by row."""

from wordfractions.errors import DerivationError, FitError, SizeError
from wordfractions.kinds.shape import DIGITS, consists_of
from wordfractions.sequents.parts import steps_from_parts
from wordfractions.sequents.rules import make_axiom, make_step, sequent_of
from wordfractions.sequents.text import ARROW, format_sequent

MOST_ROWS = 200
MOST_DIGITS = 9


def _format_row(number, step, part_numbers):
    rule, at, width = step[0], step[3], step[4]
    inside = " ".join([str(part) for part in part_numbers])
    return f"{number} {rule} {at} {width} ({inside}): {format_sequent(sequent_of(step))}"


def format_derivation(derivation):
    """Return the text of the derivation, a row for each step."""
    rows = []
    for number, (step, places) in enumerate(steps_from_parts(derivation), start=1):
        rows.append(_format_row(number, step, [place + 1 for place in places]))
    return "\n".join(rows)


def parse_derivation(text):
    """Return the derivation of the text's last row."""
    rows = text.split("\n")
    if len(rows) > MOST_ROWS:
        raise SizeError(f"a text of {len(rows)} rows")
    # The derivation of each row, until a later row takes it as a part.
    loose = {}
    for number, row in enumerate(rows, start=1):
        derivation = _read_row(number, row, loose)
        if derivation is None:
            raise DerivationError(number)
        loose[number] = derivation
    if len(loose) > 1:
        raise DerivationError(len(rows) + 1)
    return loose[len(rows)]


def _read_row(number, row, loose):
    """Return the derivation of the row, with its parts taken away, or None if it is bad."""
    head, _, tail = row.partition(" (")
    inside, _, sequent_text = tail.partition("): ")
    words = head.split(" ")
    part_numbers = _read_numbers(inside.split(" ") if inside else [])
    places = _read_numbers(words[-2:-1])
    if part_numbers is None or not places:
        return None
    parts = _take_parts(part_numbers, loose)
    if parts is None:
        return None
    step = _make_again(" ".join(words[1:-2]), places[0], parts, sequent_text)
    # Whatever was read too freely above differs from the row as it must be.
    if step is None or _format_row(number, step, part_numbers) != row:
        return None
    return step


def _read_numbers(texts):
    """Return the numbers that the texts mean, or None if one is no number."""
    if not all([1 <= len(text) <= MOST_DIGITS and consists_of(text, DIGITS) for text in texts]):
        return None
    return [int(text) for text in texts]


def _take_parts(part_numbers, loose):
    """Return the derivations with these numbers, taken away, or None if one is missing."""
    parts = []
    for number in part_numbers:
        if number not in loose:
            return None
        parts.append(loose.pop(number))
    return tuple(parts)


def _make_again(rule, at, parts, sequent_text):
    """Return the step by the rule, or None if there is no such step."""
    if rule == "axiom" and parts:
        return None
    try:
        if rule == "axiom":
            # An axiom's goal is an atom, so it is its own text.
            return make_axiom(sequent_text.partition(f" {ARROW} ")[2])
        return make_step(rule, at, parts)
    except (FitError, SizeError):
        return None
