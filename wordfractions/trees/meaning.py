"""Values of trees in a world."""

from wordfractions.meanings.derivations import derivation_value, refuse_large_steps, refuse_other_values
from wordfractions.meanings.values import count_values
from wordfractions.trees.shape import leaves_of, tree_kind, walk_nodes


def tree_value(tree, world, values):
    """Return the value of the tree for these values of its leaves."""
    if tree[0] == "leaf":
        # No derivation asks for the number of values of a lone leaf.
        count_values(tree_kind(tree), world)
    for _, node in walk_nodes(tree):
        if node[0] != "leaf":
            refuse_large_steps(node[-1], world)
    refuse_other_values(values, leaves_of(tree), world)
    return _value(tree, world, values)


def _value(tree, world, values):
    if tree[0] == "leaf":
        return values[0]
    found = []
    used = 0
    for subtree in tree[2:-1]:
        many = len(leaves_of(subtree))
        found.append(_value(subtree, world, values[used:used + many]))
        used += many
    return derivation_value(tree[-1], world, tuple(found))
