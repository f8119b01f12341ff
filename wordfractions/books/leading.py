"""What kinds of a book lead to together."""


def list_led(book, rows, left_out):
    """Return the kinds of the book, in order, to which one of the rows of one or two kinds leads.

    `left_out` is a dict; its keys are not asked for, and are not in the answer.
    """
    found = set()
    for parts in rows:
        if len(found) + len(left_out) == len(book):
            break
        for kind in book.alike(parts):
            if kind not in left_out and kind not in found and book.has_rule(kind, parts):
                found.add(kind)
    return tuple([kind for kind in book if kind in found])


def find_roots(book, kinds):
    """Return some of these kinds that lead to all of them by unary rules, and to none of one another.

    Whatever the kinds lead to beside others, their roots lead to, too.
    """
    # The first pass leaves no kind to which an earlier one leads, the second
    # pass, which goes backwards, none to which a later one leads.
    return _leave_out_led(book, _leave_out_led(book, kinds)[::-1])[::-1]


def _leave_out_led(book, kinds):
    """Return the kinds without those to which an earlier one that is returned leads."""
    led = set()
    left = []
    for kind in kinds:
        if kind not in led:
            left.append(kind)
            for other in book.unary(kind):
                led.add(other)
    return left
