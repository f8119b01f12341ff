"""A search for derivations that is written otherwise than that of the package."""

import functools


def letters(kind, sign=1):
    """The balance of a kind, not reduced."""
    if isinstance(kind, str):
        return [(kind, sign)]
    mark, first, second = kind
    parts = [letters(first, -sign if mark == ">" else sign), letters(second, -sign if mark == "/" else sign)]
    return sum(parts[::sign], [])


def reduced(row):
    """The row of letters with neighbours struck out that are opposites."""
    for place in range(len(row) - 1):
        if row[place][0] == row[place + 1][0] and row[place][1] == -row[place + 1][1]:
            return reduced(row[:place] + row[place + 2:])
    return row


@functools.lru_cache(maxsize=None)
def provable(premises, goal):
    """Tell whether there is a derivation: rules that can always come last are taken ahead of all others."""
    if reduced(sum([letters(kind) for kind in premises], [])) != reduced(letters(goal)):
        return False
    if goal[0] == "/":
        return provable(premises + (goal[2],), goal[1])
    if goal[0] == ">":
        return provable((goal[1],) + premises, goal[2])
    for place, kind in enumerate(premises):
        if kind[0] == "*":
            return provable(premises[:place] + kind[1:] + premises[place + 1:], goal)
    if premises == (goal,) and isinstance(goal, str):
        return True
    if goal[0] == "*":
        for at in range(1, len(premises)):
            if provable(premises[:at], goal[1]) and provable(premises[at:], goal[2]):
                return True
    for place, kind in enumerate(premises):
        for end in range(place + 2, len(premises) + 1) if kind[0] == "/" else ():
            if (provable(premises[place + 1:end], kind[2])
                    and provable(premises[:place] + (kind[1],) + premises[end:], goal)):
                return True
        for start in range(place) if kind[0] == ">" else ():
            if (provable(premises[start:place], kind[1])
                    and provable(premises[:start] + (kind[2],) + premises[place + 1:], goal)):
                return True
    return False
