"""The bounds of a sequent that is searched."""

from wordfractions.errors import SizeError
from wordfractions.sequents.sequent import count_atoms, make_sequent

MOST_SEARCHED_PREMISES = 12
MOST_SEARCHED_ATOMS = 24


def refuse_large(sequent):
    """Raise SizeError if the sequent is too large for a search."""
    if len(sequent[0]) > MOST_SEARCHED_PREMISES or count_atoms(sequent) > MOST_SEARCHED_ATOMS:
        raise SizeError("a sequent that is too large for a search")


def searched_sequent(sequent):
    """Return the sequent, whose premises may be a list, if it may be searched."""
    premises, goal = sequent
    made = make_sequent(premises, goal)
    refuse_large(made)
    return made
