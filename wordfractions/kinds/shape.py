"""Atoms and kinds: what they are, what they are made of, and simple changes."""

from wordfractions.errors import SizeError

SIGNS = ("/", ">", "*")
SMALL_LETTERS = "abcdefghijklmnopqrstuvwxyz"
DIGITS = "0123456789"
ATOM_LENGTH = 8
NUMBER_LENGTH = 6
MOST_ATOMS = 40


def is_whole(thing):
    """Tell whether this is a whole number: True and False are none."""
    return isinstance(thing, int) and not isinstance(thing, bool)


def consists_of(text, characters):
    """Tell whether all characters of the text are among the given ones."""
    return all([character in characters for character in text])


def begins_small(text):
    """Tell whether the text begins with a small letter."""
    return text != "" and text[0] in SMALL_LETTERS


def is_plain_atom(thing):
    """Tell whether this is an atom without a number."""
    return (
        isinstance(thing, str)
        and len(thing) <= ATOM_LENGTH
        and begins_small(thing)
        and consists_of(thing, SMALL_LETTERS + DIGITS)
    )


def is_atom_number(text):
    """Tell whether the text is a number from 1 to 999999 without leading zeros."""
    return 1 <= len(text) <= NUMBER_LENGTH and text[0] != "0" and consists_of(text, DIGITS)


def is_atom(thing):
    """Tell whether this is an atom or a numbered atom."""
    if not isinstance(thing, str):
        return False
    base, dot, number = thing.partition(".")
    return is_plain_atom(base) and (dot == "" or is_atom_number(number))


def _count_atoms(thing):
    """Return the number of atoms, or 0 for what is not built as a kind is."""
    if isinstance(thing, str):
        return 1 if is_atom(thing) else 0
    if not isinstance(thing, tuple) or len(thing) != 3:
        return 0
    if not isinstance(thing[0], str) or thing[0] not in SIGNS:
        return 0
    first = _count_atoms(thing[1])
    second = _count_atoms(thing[2])
    return first + second if first and second else 0


def is_kind(thing):
    """Tell whether this is a kind. Anything may be asked."""
    return 1 <= _count_atoms(thing) <= MOST_ATOMS


def size_of(kind):
    """Return the number of atoms."""
    if isinstance(kind, str):
        return 1
    return size_of(kind[1]) + size_of(kind[2])


def signs_of(kind):
    """Return the number of signs."""
    return size_of(kind) - 1


def _list_atoms(kind):
    if isinstance(kind, str):
        return [kind]
    return _list_atoms(kind[1]) + _list_atoms(kind[2])


def atoms_of(kind):
    """Return the atoms in written order, each as often as it stands."""
    return tuple(_list_atoms(kind))


def count_of(kind, atom):
    """Return how often this very atom stands in the kind."""
    return _list_atoms(kind).count(atom)


def has_numbers(kind):
    """Tell whether a numbered atom stands in the kind."""
    return any(["." in atom for atom in _list_atoms(kind)])


def base_of(atom):
    """Return the atom without its number."""
    return atom.partition(".")[0]


def atom_number(atom):
    """Return the number of a numbered atom, and 0 for any other atom."""
    number = atom.partition(".")[2]
    return int(number) if number else 0


def _mirror_sign(sign):
    if sign == "/":
        return ">"
    return "/" if sign == ">" else sign


def mirror_kind(kind):
    """Return the kind with left and right exchanged."""
    if isinstance(kind, str):
        return kind
    sign, first, second = kind
    return (_mirror_sign(sign), mirror_kind(second), mirror_kind(first))


def _replace_atom(kind, atom, other):
    if isinstance(kind, str):
        return other if kind == atom else kind
    sign, first, second = kind
    return (sign, _replace_atom(first, atom, other), _replace_atom(second, atom, other))


def substitute_kind(kind, atom, other):
    """Return the kind that has the other kind wherever this very atom stands."""
    size = size_of(kind) + count_of(kind, atom) * (size_of(other) - 1)
    if size > MOST_ATOMS:
        raise SizeError(f"a kind of {size} atoms")
    return _replace_atom(kind, atom, other)
