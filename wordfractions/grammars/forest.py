"""The trees of a two-part grammar over a phrase."""

from wordfractions.errors import FitError, SizeError
from wordfractions.grammars.counting import count_spans
from wordfractions.grammars.grammar import quote
from wordfractions.words.phrase import check_phrase

MOST_TREES = 500


def grammar_trees(grammar, words):
    """Return the trees of the start over the phrase, in order."""
    counts = _counts(grammar, words)
    whole = (grammar.start, 0, len(words))
    if counts.get(whole, 0) > MOST_TREES:
        raise SizeError(f"more than {MOST_TREES} trees")
    return tuple(_list_trees(grammar.rules, words, counts, whole))


def count_trees(grammar, words):
    """Return the number of the trees of the start over the phrase."""
    return _counts(grammar, words).get((grammar.start, 0, len(words)), 0)


def tree_words(tree):
    """Return the words of the tree, from the left."""
    if len(tree) == 2:
        return (tree[1],)
    return tree_words(tree[1]) + tree_words(tree[2])


def refuse_other_forms(grammar):
    """Raise FitError unless the grammar is two-part."""
    if not grammar.two_part:
        raise FitError("a grammar that is not two-part")


def _counts(grammar, words):
    check_phrase(words)
    refuse_other_forms(grammar)
    return count_spans(grammar.rules, words)


def _list_trees(rules, words, counts, place):
    """Return the list of the trees at this place, which is a name, a start and a stop."""
    name, start, stop = place
    trees = []
    for head, body in rules:
        if head != name:
            continue
        if len(body) == 1:
            if stop == start + 1 and body[0] == quote(words[start]):
                trees.append((name, words[start]))
        else:
            trees.extend(_list_pairs(rules, words, counts, place, body))
    return trees


def _list_pairs(rules, words, counts, place, body):
    """Return the list of the trees at this place that a rule with two names makes."""
    name, start, stop = place
    trees = []
    for middle in range(start + 1, stop):
        left_place = (body[0], start, middle)
        right_place = (body[1], middle, stop)
        # What stands beside a part without trees is not listed: it may have very many.
        if left_place in counts and right_place in counts:
            rights = _list_trees(rules, words, counts, right_place)
            lefts = _list_trees(rules, words, counts, left_place)
            trees.extend([(name, left, right) for left in lefts for right in rights])
    return trees
