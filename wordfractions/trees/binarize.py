"""Trees of derivations, with no kind larger than those of the sequent."""

from wordfractions.kinds.balance import Balance
from wordfractions.middles.interpolate import interpolate
from wordfractions.middles.numbers import number_axioms, unnumber, unnumber_kind
from wordfractions.trees.neighbours import neighbours


def binarize(derivation):
    """Return a tree over the premises, with the derivation's goal and value."""
    # The numbers keep apart what belongs to unlike axioms: without them the
    # interpolants might be larger than the kinds of the sequent.
    rest = number_axioms(derivation)
    trees = [("leaf", kind) for kind in derivation[1]]
    if len(trees) == 1:
        return ("unary", derivation[2], trees[0], derivation)
    # What stands above the tree of the rest, from the root on: the right tree
    # and the derivation of each node.
    above = []
    while len(trees) > 2:
        place = _place_to_join(rest)
        if place + 1 < len(trees):
            _, inner, rest = interpolate(rest, place, place + 2)
            trees[place:place + 2] = [_node(trees[place], trees[place + 1], inner)]
        else:
            _, rest, outer = interpolate(rest, 0, place)
            above.append((trees.pop(), outer))
    tree = _node(trees[0], trees[1], rest)
    for right, outer in reversed(above):
        tree = _node(tree, right, outer)
    return tree


def _place_to_join(derivation):
    """Return the place of two neighbours, the goal behind the premises, that are small together."""
    balances = [Balance.of(kind) for kind in derivation[1]]
    return neighbours([*balances, -Balance.of(derivation[2])])


def _node(left, right, derivation):
    return ("binary", unnumber_kind(derivation[2]), left, right, unnumber(derivation))
