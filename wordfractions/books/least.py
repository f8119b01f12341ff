"""The least numbers of words that yield the kinds of a book."""

from wordfractions.books.leading import find_roots, list_led
from wordfractions.errors import FitError


def least_words(book, choices):
    """Return the least number of each kind of the book that has one."""
    for _, kind in choices:
        if kind not in book:
            raise FitError("a kind that is not in the book")
    least = {}
    # By each number, the roots of the kinds that have it.
    roots = [()]
    rows = [(kind,) for _, kind in choices]
    number = 1
    largest = 1
    # A number is the sum of two numbers that were found before.
    while number <= 2 * largest:
        found = list_led(book, rows, least)
        for kind in found:
            least[kind] = number
            largest = number
        roots.append(find_roots(book, found))
        number += 1
        rows = _pairs_with_sum(roots, number)
    return least


def _pairs_with_sum(roots, total):
    """Return the pairs of roots whose numbers have this sum, above 1."""
    return [
        (left, right)
        for number in range(1, total)
        for left in roots[number]
        for right in roots[total - number]
    ]
