"""Trees: what they are made of, their faults and their text."""

from wordfractions.kinds.shape import size_of
from wordfractions.kinds.text import format_kind
from wordfractions.sequents.faults import first_fault
from wordfractions.sequents.rules import sequent_of


def tree_kind(tree):
    """Return the kind of the tree."""
    return tree[1]


def _subtrees(node):
    """Return the trees directly in the node, from the left."""
    # They stand between the kind and the derivation; a leaf has neither.
    return node[2:-1]


def walk_nodes(tree):
    """Yield (path, node) for each node, a node ahead of those beneath it."""
    waiting = [((), tree)]
    while waiting:
        path, node = waiting.pop()
        yield (path, node)
        subtrees = _subtrees(node)
        for place in reversed(range(len(subtrees))):
            waiting.append((path + (place,), subtrees[place]))


def leaves_of(tree):
    """Return the kinds of the leaves, from the left."""
    return tuple([tree_kind(node) for _, node in walk_nodes(tree) if node[0] == "leaf"])


def count_nodes(tree):
    """Return the numbers of leaves, unary nodes and binary nodes."""
    forms = [node[0] for _, node in walk_nodes(tree)]
    return (forms.count("leaf"), forms.count("unary"), forms.count("binary"))


def largest_size(tree):
    """Return the largest size of a kind of a node."""
    return max([size_of(tree_kind(node)) for _, node in walk_nodes(tree)])


def _is_right(node):
    if node[0] == "leaf":
        return True
    premises = tuple([tree_kind(subtree) for subtree in _subtrees(node)])
    derivation = node[-1]
    return sequent_of(derivation) == (premises, tree_kind(node)) and first_fault(derivation) is None


def tree_fault(tree):
    """Return the path of the first node that is not right, or None."""
    for path, node in walk_nodes(tree):
        if not _is_right(node):
            return path
    return None


def format_tree(tree):
    """Return the text of the tree, a row for each node."""
    rows = []
    for path, node in walk_nodes(tree):
        indent = "  " * len(path)
        rows.append(f"{indent}{node[0]} {format_kind(tree_kind(node))}")
    return "\n".join(rows)
