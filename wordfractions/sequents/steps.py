"""The last steps that a derivation of a sequent may have."""


def last_steps(sequent):
    """Return all last steps of the sequent, cuts left out, in order."""
    premises, goal = sequent
    found = list(_steps_for_goal(premises, goal))
    for place, kind in enumerate(premises):
        if not isinstance(kind, str):
            found.extend(_steps_for_premise(premises, goal, place))
    return tuple(found)


def _steps_for_goal(premises, goal):
    if isinstance(goal, str):
        return [("axiom", 0, 0, ())] if premises == (goal,) else []
    sign, first, second = goal
    if sign == "/":
        return [("over right", 0, 0, ((premises + (second,), first),))]
    if sign == ">":
        return [("under right", 0, 0, (((first,) + premises, second),))]
    return [
        ("pair right", at, 0, ((premises[:at], first), (premises[at:], second)))
        for at in range(1, len(premises))
    ]


def _steps_for_premise(premises, goal, place):
    sign, first, second = premises[place]
    ahead = premises[:place]
    behind = premises[place + 1:]
    if sign == "/":
        return [
            ("over left", place, width, ((behind[:width], second), (ahead + (first,) + behind[width:], goal)))
            for width in range(1, len(behind) + 1)
        ]
    if sign == ">":
        return [
            ("under left", place, width, (
                (ahead[place - width:], first),
                (ahead[:place - width] + (second,) + behind, goal),
            ))
            for width in range(1, place + 1)
        ]
    return [("pair left", place, 0, ((ahead + (first, second) + behind, goal),))]
