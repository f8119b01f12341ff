"""The order of the derivations without cuts of a sequent."""

from wordfractions.errors import FitError
from wordfractions.search.bounds import refuse_large, searched_sequent
from wordfractions.search.count import counts_below, number_of
from wordfractions.sequents.faults import first_fault
from wordfractions.sequents.rules import sequent_of
from wordfractions.sequents.text import format_sequent


def derivation_at(sequent, index):
    """Return the derivation with this index."""
    searched = searched_sequent(sequent)
    counts = counts_below(searched)
    if not 0 <= index < number_of(searched, counts):
        raise FitError("no derivation has this index")
    return _make(searched, index, counts)


def _endings(sequent, counts):
    """Return the pairs of a last step and how many derivations end with it."""
    return counts[format_sequent(sequent)][1]


def _make(sequent, index, counts):
    premises, goal = sequent
    left = index
    for (rule, at, width, parts), many in _endings(sequent, counts):
        if left < many:
            break
        left = left - many
    # The index is below the number of all derivations, so the loop has broken off.
    return (rule, premises, goal, at, width, _make_row(parts, left, counts))


def _make_row(parts, index, counts):
    """Return the derivations of the parts with this index among all such rows."""
    made = []
    left = index
    for part in reversed(parts):
        left, place = divmod(left, number_of(part, counts))
        made.append(_make(part, place, counts))
    return tuple(made[::-1])


def derivations_of(sequent):
    """Yield the derivations, in their order."""
    searched = searched_sequent(sequent)
    counts = counts_below(searched)
    yield from _derivations(searched, counts)


def _derivations(sequent, counts):
    premises, goal = sequent
    # Steps with a part that has no derivation are left out here. Otherwise the
    # derivations of its other part would be listed in vain.
    for (rule, at, width, parts), _ in _endings(sequent, counts):
        for row in _rows(parts, counts):
            yield (rule, premises, goal, at, width, row)


def _rows(parts, counts):
    """Yield the rows of derivations of the parts, those with the same first one together."""
    if len(parts) == 0:
        yield ()
        return
    head, rest = parts[0], parts[1:]
    for first in _derivations(head, counts):
        for others in _rows(rest, counts):
            yield (first,) + others


def index_of(derivation):
    """Return the index of the derivation."""
    if first_fault(derivation) is not None:
        raise FitError("the derivation has a fault or a cut")
    sequent = sequent_of(derivation)
    refuse_large(sequent)
    return _index(derivation, counts_below(sequent))


def _index(derivation, counts):
    index = 0
    for part in derivation[5]:
        index = index * number_of(sequent_of(part), counts) + _index(part, counts)
    return index + _number_ahead(derivation, counts)


def _number_ahead(derivation, counts):
    """Return the number of the derivations with an earlier last step."""
    total = 0
    for (rule, at, width, _), many in _endings(sequent_of(derivation), counts):
        if (rule, at, width) == (derivation[0], derivation[3], derivation[4]):
            break
        total = total + many
    return total
