"""Books: all small kinds over some atoms, and the rules that lead from one to another."""

from wordfractions.errors import FitError, SizeError
from wordfractions.kinds.balance import Balance
from wordfractions.kinds.order import MOST_UNLIKE_ATOMS, is_row_of_atoms, kinds_up_to, number_of_kinds
from wordfractions.kinds.shape import atoms_of, has_numbers, is_whole, size_of
from wordfractions.search.decide import decide
from wordfractions.search.follow import Follower

MOST_SIZE = 4
MOST_PARTS = 2


def _group_by_letters(letters_of):
    """Return a dict from letters to the tuple of the kinds that have them, in the order of those given."""
    groups = {}
    for kind, letters in letters_of.items():
        groups[letters] = groups.get(letters, ()) + (kind,)
    return groups


class Book:
    """The kinds over some atoms up to a size, and their rules. It never changes."""

    LIMIT = 600

    def __init__(self, atoms, most):
        if not is_row_of_atoms(atoms) or not is_whole(most) or not 1 <= most <= MOST_SIZE:
            raise FitError("no row of atoms, or no size of a book")
        if sum([number_of_kinds(len(atoms), size) for size in range(1, most + 1)]) > self.LIMIT:
            raise SizeError(f"more than {self.LIMIT} kinds")
        self._atoms = tuple(sorted(atoms))
        self._most = most
        self._kinds = kinds_up_to(atoms, most)
        self._letters = {kind: Balance.of(kind).letters for kind in self._kinds}
        self._groups = _group_by_letters(self._letters)
        self._follower = Follower()
        # Answers found before: by letters, by a kind, by two kinds.
        self._alike = {}
        self._unary = {}
        self._binary = {}

    @property
    def atoms(self):
        """The atoms, in the order of kinds."""
        return self._atoms

    @property
    def most(self):
        """The largest size of a kind."""
        return self._most

    def __len__(self):
        return len(self._kinds)

    def __contains__(self, kind):
        # Large kinds nest too deep to be looked up.
        return size_of(kind) <= self._most and kind in self._letters

    def __iter__(self):
        return iter(self._kinds)

    @classmethod
    def covering(cls, first, *others):
        """Return the least book that has all these kinds."""
        kinds = (first, *others)
        if any([has_numbers(kind) for kind in kinds]):
            raise FitError("a kind with numbers")
        most = max([size_of(kind) for kind in kinds])
        atoms = tuple(sorted(set([atom for kind in kinds for atom in atoms_of(kind)])))
        if most > MOST_SIZE or len(atoms) > MOST_UNLIKE_ATOMS:
            raise SizeError("a kind with too many atoms, or too many unlike ones")
        return cls(atoms, most)

    def unary(self, kind):
        """Return the kinds to which the kind leads."""
        self._refuse_others((kind,))
        if kind not in self._unary:
            self._unary[kind] = self._list_led((kind,))
        return self._unary[kind]

    def binary(self, left, right):
        """Return the kinds to which the two kinds lead together."""
        parts = (left, right)
        self._refuse_others(parts)
        if parts not in self._binary:
            self._binary[parts] = self._list_led(parts)
        return self._binary[parts]

    def derivation(self, kind, parts):
        """Return a derivation of the kind from one or two parts."""
        if not 1 <= len(parts) <= MOST_PARTS:
            raise FitError("not one or two parts")
        self._refuse_others((kind, *parts))
        status, derivation = decide((parts, kind))
        if status != "derived":
            raise FitError("the parts do not lead to the kind")
        return derivation

    def alike(self, parts):
        """Return the kinds of the book, in order, whose balance is that of these parts together.

        Parts lead to no other kinds.
        """
        letters = ()
        for kind in parts:
            letters = letters + self._letters[kind]
        if letters not in self._alike:
            self._alike[letters] = self._groups.get(Balance(letters).letters, ())
        return self._alike[letters]

    def has_rule(self, kind, parts):
        """Tell whether parts of the book lead to one of its kinds."""
        return self._follower.has_derivation(parts, kind)

    def _list_led(self, parts):
        return tuple([kind for kind in self.alike(parts) if self.has_rule(kind, parts)])

    def _refuse_others(self, kinds):
        for kind in kinds:
            if kind not in self:
                raise FitError("a kind that is not in the book")
