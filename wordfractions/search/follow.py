"""Whether sequents have derivations, with no certificates."""

from wordfractions.kinds.balance import Balance

MOST_KNOWN = 2 * 10 ** 5


class Follower:
    """Tells whether sequents of small kinds have derivations, and remembers what it found.

    Kinds have numbers here, in the order in which they were met, so that a
    sequent is looked up by a short tuple. They must nest little: a number is
    looked up by the kind itself.
    """

    def __init__(self):
        self._numbers = {}
        # By its number, a kind's sign and the numbers of its parts (none for
        # an atom), and the letters of its balance.
        self._parts = []
        self._letters = []
        self._known = {}

    def has_derivation(self, premises, goal):
        """Tell whether the premises, a tuple of kinds, derive the goal."""
        if len(self._known) > MOST_KNOWN:
            # There may be far more sequents than can be kept.
            self._known.clear()
        numbers = tuple([self._number_of(kind) for kind in premises])
        goal_number = self._number_of(goal)
        return self._is_balanced(numbers, goal_number) and self._follows(numbers, goal_number)

    def _number_of(self, kind):
        if kind not in self._numbers:
            parts = () if isinstance(kind, str) else (kind[0], self._number_of(kind[1]), self._number_of(kind[2]))
            self._numbers[kind] = len(self._parts)
            self._parts.append(parts)
            self._letters.append(Balance.of(kind).letters)
        return self._numbers[kind]

    def _is_balanced(self, premises, goal):
        letters = []
        for premise in premises:
            letters.extend(self._letters[premise])
        return Balance(tuple(letters)).letters == self._letters[goal]

    def _follows(self, premises, goal):
        """Tell whether a sequent whose balances do not differ has a derivation."""
        key = (premises, goal)
        if key not in self._known:
            self._known[key] = self._find_out(premises, goal)
        return self._known[key]

    def _find_out(self, premises, goal):
        # A derivation may always end with a rule that has one part, if the
        # sequent has such a last step at all. So no other one need be tried.
        goal_parts = self._parts[goal]
        if goal_parts and goal_parts[0] == "/":
            return self._follows(premises + (goal_parts[2],), goal_parts[1])
        if goal_parts and goal_parts[0] == ">":
            return self._follows((goal_parts[1],) + premises, goal_parts[2])
        for place, premise in enumerate(premises):
            parts = self._parts[premise]
            if parts and parts[0] == "*":
                return self._follows(premises[:place] + parts[1:] + premises[place + 1:], goal)
        if premises == (goal,):
            # All pairs were opened, so this is an atom.
            return True
        return self._ends_with_pair(premises, goal_parts) or self._ends_with_fraction(premises, goal)

    def _ends_with_pair(self, premises, goal_parts):
        if goal_parts:
            for at in range(1, len(premises)):
                if self._both_follow(premises[:at], goal_parts[1], premises[at:], goal_parts[2]):
                    return True
        return False

    def _ends_with_fraction(self, premises, goal):
        for place, premise in enumerate(premises):
            parts = self._parts[premise]
            if parts and parts[0] == "/":
                for stop in range(place + 2, len(premises) + 1):
                    rest = premises[:place] + parts[1:2] + premises[stop:]
                    if self._both_follow(premises[place + 1:stop], parts[2], rest, goal):
                        return True
            elif parts:
                for start in range(place):
                    rest = premises[:start] + parts[2:] + premises[place + 1:]
                    if self._both_follow(premises[start:place], parts[1], rest, goal):
                        return True
        return False

    def _both_follow(self, premises, goal, others, other_goal):
        # If the balances of the first part do not differ, those of the second
        # one do not either.
        return (
            self._is_balanced(premises, goal)
            and self._follows(premises, goal)
            and self._follows(others, other_goal)
        )
