"""Neighbouring balances that strike out much of each other."""

from wordfractions.errors import FitError
from wordfractions.kinds.balance import multiply


def neighbours(balances):
    """Return the least k for which the balances at k and k + 1 have a short product."""
    if len(balances) < 2 or len(multiply(*balances)) > 0:
        raise FitError("fewer than two balances, or a product that is not empty")
    place = 0
    while not _have_short_product(balances[place], balances[place + 1]):
        place += 1
    return place


def _have_short_product(first, second):
    return len(first * second) <= max(len(first), len(second))
