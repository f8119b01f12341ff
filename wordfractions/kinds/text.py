"""The texts of kinds, written and read."""

from wordfractions.errors import KindError, SizeError
from wordfractions.kinds.shape import (
    ATOM_LENGTH, DIGITS, MOST_ATOMS, NUMBER_LENGTH, SIGNS, SMALL_LETTERS, size_of,
)

MOST_CHARACTERS = 400


def _format_part(kind):
    text = format_kind(kind)
    return text if isinstance(kind, str) else f"({text})"


def format_kind(kind):
    """Return the text of the kind."""
    if isinstance(kind, str):
        return kind
    sign, first, second = kind
    return f"{_format_part(first)} {sign} {_format_part(second)}"


def parse_kind(text, *, shorts=()):
    """Return the kind that the text means."""
    if len(text) > MOST_CHARACTERS:
        raise SizeError(f"a text of {len(text)} characters")
    kind = _read_whole(text, dict(shorts))
    if size_of(kind) > MOST_ATOMS:
        raise SizeError(f"a kind of {size_of(kind)} atoms")
    return kind


def _stretch_end(text, start, characters):
    """Return the first place from `start` on that has none of the characters."""
    end = start
    while end < len(text) and text[end] in characters:
        end += 1
    return end


def _read_whole(text, shorts):
    # What stands ahead of each bracket that is not closed yet: the unit and
    # the sign behind it, or None twice. A list, so that no depth is too deep.
    waiting = []
    first, sign = None, None
    at = 0
    while True:
        at = _stretch_end(text, at, " ")
        if text[at:at + 1] == "(":
            waiting.append((first, sign))
            first, sign = None, None
            at += 1
            continue
        unit, at = _read_unit(text, at, shorts)
        kind = unit if sign is None else (sign, first, unit)
        at = _stretch_end(text, at, " ")
        while waiting and text[at:at + 1] == ")":
            first, sign = waiting.pop()
            unit = kind
            kind = unit if sign is None else (sign, first, unit)
            at = _stretch_end(text, at + 1, " ")
        if at == len(text) and not waiting:
            return kind
        if sign is not None or text[at:at + 1] not in SIGNS:
            raise KindError(at)
        first, sign = unit, text[at]
        at += 1


def _read_unit(text, at, shorts):
    """Return the kind of the name that begins here, and the place behind it."""
    if at < len(text) and text[at] in SMALL_LETTERS:
        end = _atom_end(text, at)
        return text[at:end], end
    end = _short_end(text, at, shorts)
    return shorts[text[at:end]], end


def _atom_end(text, start):
    """Return the place behind the atom or numbered atom that begins here."""
    dot = _stretch_end(text, start, SMALL_LETTERS + DIGITS)
    if dot - start > ATOM_LENGTH:
        raise KindError(start + ATOM_LENGTH)
    if text[dot:dot + 1] != ".":
        return dot
    number = dot + 1
    end = _stretch_end(text, number, DIGITS)
    if end == number or text[number] == "0":
        raise KindError(number)
    if end - number > NUMBER_LENGTH:
        raise KindError(number + NUMBER_LENGTH)
    return end


def _short_end(text, start, shorts):
    """Return the place behind the short name that begins here."""
    end = start
    while end < len(text) and _begins_short(text[start:end + 1], shorts):
        end += 1
    if text[start:end] not in shorts:
        raise KindError(end)
    return end


def _begins_short(text, shorts):
    return any([name.startswith(text) for name in shorts])
