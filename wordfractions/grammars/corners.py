"""Corner rules: the trees of a two-part grammar along their left sides."""

from wordfractions.errors import FitError, SizeError
from wordfractions.grammars.forest import refuse_other_forms
from wordfractions.grammars.grammar import quote
from wordfractions.grammars.symbols import LABEL, RESTS, SYMBOL, WORD, list_kept
from wordfractions.words.phrase import check_phrase

MOST_CORNERS = 1000


def corner_rules(grammar):
    """Return the kept corner rules, in order."""
    refuse_other_forms(grammar)
    corners = list_kept(grammar)
    if len(corners) > MOST_CORNERS:
        raise SizeError(f"more than {MOST_CORNERS} corner rules")
    return tuple(corners)


def tree_to_corners(grammar, tree):
    """Return the corner rules of the tree, one for each of its words."""
    refuse_other_forms(grammar)
    if tree[0] != grammar.start or not _is_tree_of(grammar, tree):
        raise FitError("not a tree of the grammar's start")
    return tuple(_list_corners(tree))


def _rule_of(tree):
    """Return the rule that makes the tree."""
    if len(tree) == 2:
        return (tree[0], (quote(tree[1]),))
    return (tree[0], (tree[1][0], tree[2][0]))


def _is_tree_of(grammar, tree):
    if _rule_of(tree) not in grammar.rules:
        return False
    return len(tree) == 2 or (_is_tree_of(grammar, tree[1]) and _is_tree_of(grammar, tree[2]))


def _list_corners(tree):
    name = tree[0]
    # The parts of the tree along its left side, the lowest first.
    side = [tree]
    while len(side[0]) == 3:
        side.insert(0, side[0][1])
    rests = ((side[0][0], name),) if len(side) > 1 else ()
    corners = [(name, side[0][1], rests, (_rule_of(side[0]),))]
    for place in range(1, len(side)):
        part = side[place]
        first, *others = _list_corners(part[2])
        ends = place == len(side) - 1
        more = first[RESTS] if ends else first[RESTS] + ((part[0], name),)
        corners.append(((part[1][0], name), first[WORD], more, (_rule_of(part), first[LABEL][0], ends)))
        corners.extend(others)
    return corners


def corners_to_tree(grammar, corners):
    """Return the tree that has these corner rules."""
    refuse_other_forms(grammar)
    if len(corners) == 0 or len(corners[0][LABEL]) != 1:
        raise FitError("corner rules that do not begin a tree")
    _, word, rests, label = corners[0]
    tree, stop = _read_tree(corners, 1, word, rests, label[0])
    # What was read is judged by what it has itself.
    if stop != len(corners) or tree_to_corners(grammar, tree) != corners:
        raise FitError("the corner rules are those of no tree")
    return tree


def _read_tree(corners, place, word, rests, rule):
    """Return (tree, stop): the tree with this beginning that goes on at the place, and where it stops."""
    tree = (rule[0], word)
    ends = len(rests) == 0
    while not ends:
        if place == len(corners) or len(corners[place][LABEL]) != 3:
            raise FitError("corner rules that break off")
        _, next_word, more, (made, next_rule, ends) = corners[place]
        inner = more if ends else more[:-1]
        right, place = _read_tree(corners, place + 1, next_word, inner, next_rule)
        tree = (made[0], tree, right)
    return tree, place


def count_corner_trees(grammar, words):
    """Return the number of tuples of corner rules that fit and have these words."""
    check_phrase(words)
    corners = corner_rules(grammar)
    counts = {}
    many = len(words)
    for start in reversed(range(many)):
        for corner in corners:
            if corner[WORD] == words[start]:
                for stop in range(start + 1, many + 1):
                    key = (corner[SYMBOL], start, stop)
                    counts[key] = counts.get(key, 0) + _count_rests(corner[RESTS], start + 1, stop, counts)
    return counts.get((grammar.start, 0, many), 0)


def _count_rests(rests, start, stop, counts):
    """Return in how many ways the rests make up the words from start to stop, one behind the other."""
    if len(rests) == 0:
        return 1 if start == stop else 0
    if len(rests) == 1:
        return counts.get((rests[0], start, stop), 0)
    return sum([
        counts.get((rests[0], start, middle), 0) * counts.get((rests[1], middle, stop), 0)
        for middle in range(start + 1, stop)
    ])
