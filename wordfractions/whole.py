"""A phrase traced through the whole program."""

from wordfractions.desk.reading import read_words
from wordfractions.middles.numbers import number_axioms
from wordfractions.trees.back import tree_derivation


def trace_phrase(dictionary, words):
    """Return (choice, derivation, numbered, tree, back), or None if the phrase is not a sentence."""
    answer = read_words(dictionary, words)
    if answer[0] == "none":
        return None
    _, choice, derivation, tree = answer
    return (choice, derivation, number_axioms(derivation), tree, tree_derivation(tree))
