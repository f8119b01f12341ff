"""Sequents: a row of premises and a goal."""

from wordfractions.errors import SequentError, SizeError
from wordfractions.kinds.balance import Balance, multiply
from wordfractions.kinds.shape import is_kind, mirror_kind, signs_of, size_of

MOST_PREMISES = 40
MOST_SEQUENT_ATOMS = 80


def count_signs(sequent):
    """Return the number of signs, those of the premises and of the goal."""
    premises, goal = sequent
    return sum([signs_of(kind) for kind in premises]) + signs_of(goal)


def count_atoms(sequent):
    """Return the number of atoms, each counted as often as it stands."""
    premises, goal = sequent
    return sum([size_of(kind) for kind in premises]) + size_of(goal)


def is_within_bounds(sequent):
    """Tell whether premises and atoms are not too many. Single kinds are not asked."""
    return len(sequent[0]) <= MOST_PREMISES and count_atoms(sequent) <= MOST_SEQUENT_ATOMS


def make_sequent(premises, goal):
    """Return the sequent of these premises, a tuple or a list, and this goal."""
    if not isinstance(premises, (tuple, list)) or len(premises) == 0:
        raise SequentError("the premises are no tuple or list of kinds, or there are none")
    if not all([is_kind(thing) for thing in premises]) or not is_kind(goal):
        raise SequentError("a premise or the goal is not a kind")
    sequent = (tuple(premises), goal)
    if not is_within_bounds(sequent):
        raise SizeError("a sequent with too many premises or atoms")
    return sequent


def balances_differ(sequent):
    """Tell whether the premises' balances do not make up that of the goal."""
    premises, goal = sequent
    balances = [Balance.of(kind) for kind in premises]
    return multiply(*balances) != Balance.of(goal)


def mirror_sequent(sequent):
    """Return the sequent with left and right exchanged."""
    premises, goal = sequent
    return (tuple([mirror_kind(kind) for kind in reversed(premises)]), mirror_kind(goal))
