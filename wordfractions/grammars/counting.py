"""How many trees two-part rules have over the stretches of a phrase."""

from wordfractions.grammars.grammar import quote


def count_spans(rules, words):
    """Return a dict from (name, start, stop) to the number of trees of the name over these words.

    Names without a tree over a stretch have no entry for it.
    """
    counts = {}
    for width in range(1, len(words) + 1):
        for start in range(len(words) - width + 1):
            stop = start + width
            for head, body in rules:
                many = _count_made(body, words, start, stop, counts)
                if many > 0:
                    counts[(head, start, stop)] = counts.get((head, start, stop), 0) + many
    return counts


def _count_made(body, words, start, stop, counts):
    """Return the number of trees over the stretch that a rule with this body makes."""
    if len(body) == 1:
        return 1 if stop == start + 1 and body[0] == quote(words[start]) else 0
    left, right = body
    return sum([
        counts.get((left, start, middle), 0) * counts.get((right, middle, stop), 0)
        for middle in range(start + 1, stop)
    ])
