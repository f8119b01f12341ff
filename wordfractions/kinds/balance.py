"""Balances of kinds: reduced rows of letters."""


def _reduce_letters(letters):
    """Return the letters without neighbours that are opposites."""
    left = []
    for atom, sign in letters:
        if left and left[-1] == (atom, -sign):
            left.pop()
        else:
            left.append((atom, sign))
    return tuple(left)


def _kind_letters(kind, sign):
    """Return the letters of the kind's balance, or with -1 those of its opposite."""
    if isinstance(kind, str):
        return [(kind, sign)]
    mark, first, second = kind
    left = _kind_letters(first, -sign if mark == ">" else sign)
    right = _kind_letters(second, -sign if mark == "/" else sign)
    return left + right if sign == 1 else right + left


class Balance:
    """A balance: a reduced row of letters. It never changes."""

    def __init__(self, letters=()):
        self._letters = _reduce_letters(letters)

    @property
    def letters(self):
        """The letters of the reduced row."""
        return self._letters

    def __mul__(self, other):
        return Balance(self._letters + other._letters)

    def __neg__(self):
        return Balance(tuple([(atom, -sign) for atom, sign in reversed(self._letters)]))

    def __len__(self):
        return len(self._letters)

    def __eq__(self, other):
        return isinstance(other, Balance) and self._letters == other._letters

    @staticmethod
    def of(kind):
        """Return the balance of the kind."""
        return Balance(tuple(_kind_letters(kind, 1)))


def multiply(*balances):
    """Return the product of the balances, in their order."""
    letters = []
    for balance in balances:
        letters.extend(balance.letters)
    return Balance(tuple(letters))
