"""The order of kinds, and how many of them there are."""

from wordfractions.errors import FitError, SizeError
from wordfractions.kinds.shape import SIGNS, atom_number, base_of, is_plain_atom, is_whole

MOST_UNLIKE_ATOMS = 6
MOST_LISTED = 2000


def order_key(kind):
    """Return a key that sorts as the order of kinds does; its first entry is the size."""
    if isinstance(kind, str):
        return (1, base_of(kind), atom_number(kind))
    sign, first, second = kind
    first_key = order_key(first)
    second_key = order_key(second)
    return (first_key[0] + second_key[0], SIGNS.index(sign), first_key, second_key)


def kind_before(first, second):
    """Tell whether the first kind comes ahead of the second one."""
    return order_key(first) < order_key(second)


def _count_shapes(signs):
    """Return in how many ways so many signs can be nested, whatever they are."""
    counts = [1]
    for many in range(signs):
        counts.append(sum([counts[k] * counts[many - k] for k in range(many + 1)]))
    return counts[signs]


def number_of_kinds(many, size):
    """Return the number of kinds of this size over so many unlike atoms."""
    number = _count_shapes(size - 1) * many
    for _ in range(size - 1):
        number = number * len(SIGNS) * many
    return number


def is_row_of_atoms(thing):
    """Tell whether this is a tuple of 1 to 6 unlike atoms without numbers."""
    if not isinstance(thing, tuple) or not 1 <= len(thing) <= MOST_UNLIKE_ATOMS:
        return False
    return all([is_plain_atom(atom) for atom in thing]) and len(set(thing)) == len(thing)


def kinds_up_to(atoms, most):
    """Return all kinds over the atoms that have at most so many atoms, in order."""
    if not is_row_of_atoms(atoms):
        raise FitError("not a tuple of 1 to 6 unlike atoms without numbers")
    if not is_whole(most) or most < 1:
        raise FitError("not a whole number from 1 on")
    total = 0
    size = 0
    # Sizes are counted only until there are too many kinds: `most` may be huge.
    while size < most:
        size += 1
        total += number_of_kinds(len(atoms), size)
        if total > MOST_LISTED:
            raise SizeError(f"more than {MOST_LISTED} kinds")
    return tuple(_list_kinds(sorted(atoms), most))


def _list_kinds(atoms, most):
    by_size = [[], atoms]
    for size in range(2, most + 1):
        by_size.append(_list_pairs(by_size, size))
    return [kind for kinds in by_size for kind in kinds]


def _list_pairs(by_size, size):
    """Return the kinds of this size, made of smaller ones that are in order."""
    return [
        (sign, first, second)
        for sign in SIGNS
        for first_size in range(1, size)
        for first in by_size[first_size]
        for second in by_size[size - first_size]
    ]
