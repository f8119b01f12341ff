"""Charts of rows, and trees over rows."""

from wordfractions.books.leading import find_roots, list_led
from wordfractions.errors import FitError, SizeError

MOST_PLACES = 8


def fill_chart(book, row):
    """Return the kinds that each stretch of the row can have."""
    _refuse_row(book, row)
    chart, _ = _fill(book, row)
    return chart


def read_row(book, row, wish):
    """Return a tree over the row for the wish, or None."""
    _refuse_row(book, row)
    if wish not in book:
        raise FitError("the wish is not in the book")
    chart, roots = _fill(book, row)
    if wish not in chart[(0, len(row))]:
        return None
    return _tree(book, row, roots, wish, 0, len(row))


def _refuse_row(book, row):
    if len(row) == 0:
        raise FitError("a row without places")
    if len(row) > MOST_PLACES:
        raise SizeError(f"more than {MOST_PLACES} places")
    for kinds in row:
        for kind in kinds:
            if kind not in book:
                raise FitError("a kind that is not in the book")


def _fill(book, row):
    """Return the chart, and a dict of the roots of what it has for each stretch."""
    chart = {}
    roots = {}
    for width in range(1, len(row) + 1):
        for start in range(len(row) - width + 1):
            stop = start + width
            if width == 1:
                rows = [(kind,) for kind in row[start]]
            else:
                rows = [pair for _, pair in _pairs_beside(roots, start, stop)]
            kinds = list_led(book, rows, {})
            chart[(start, stop)] = kinds
            roots[(start, stop)] = find_roots(book, kinds)
    return chart, roots


def _pairs_beside(roots, start, stop):
    """Yield (middle, pair) for the pairs of roots that stand beside one another."""
    for middle in range(start + 1, stop):
        for left in roots[(start, middle)]:
            for right in roots[(middle, stop)]:
                yield middle, (left, right)


def _tree(book, row, roots, wish, start, stop):
    """Return a tree over the stretch for a kind that the stretch can have."""
    if stop == start + 1:
        return _tree_of_place(book, row[start], wish)
    # The kind is in the chart, so some pair of roots leads to it.
    for middle, (left, right) in _pairs_beside(roots, start, stop):
        if book.has_rule(wish, (left, right)):
            break
    first = _tree(book, row, roots, left, start, middle)
    second = _tree(book, row, roots, right, middle, stop)
    return ("binary", wish, first, second, book.derivation(wish, (left, right)))


def _tree_of_place(book, kinds, wish):
    if wish in kinds:
        return ("leaf", wish)
    leading = [kind for kind in kinds if book.has_rule(wish, (kind,))]
    return ("unary", wish, ("leaf", leading[0]), book.derivation(wish, (leading[0],)))
