"""How many derivations without cuts there are."""

from wordfractions.search.bounds import searched_sequent
from wordfractions.sequents.sequent import balances_differ
from wordfractions.sequents.steps import last_steps
from wordfractions.sequents.text import format_sequent


def count_derivations(sequent):
    """Return the number of derivations without cuts of the sequent."""
    searched = searched_sequent(sequent)
    return number_of(searched, counts_below(searched))


def counts_below(sequent):
    """Return a dict of the counts of the sequent and of all sequents that its derivations need.

    By the text of a sequent it has the pair of its number of derivations and
    of a tuple of pairs: each last step that derivations end with, in order,
    and how many of them do.
    """
    counts = {}
    _count(sequent, counts)
    return counts


def number_of(sequent, counts):
    """Return the number of derivations of the sequent, read off these counts."""
    return counts[format_sequent(sequent)][0]


def _count(sequent, counts):
    """Return the number of derivations of the sequent, and keep its counts."""
    key = format_sequent(sequent)
    if key not in counts:
        endings = []
        if not balances_differ(sequent):
            for step in last_steps(sequent):
                many = _count_rows(step[3], counts)
                if many > 0:
                    endings.append((step, many))
        counts[key] = (sum([many for _, many in endings]), tuple(endings))
    return counts[key][0]


def _count_rows(parts, counts):
    """Return in how many ways the parts can be derived together."""
    product = 1
    for part in parts:
        if product > 0:
            product = product * _count(part, counts)
    return product
