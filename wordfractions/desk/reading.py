"""Phrases read: choices of kinds, and certificates."""

from wordfractions.errors import SizeError
from wordfractions.kinds.balance import Balance
from wordfractions.kinds.shape import size_of
from wordfractions.search.bounds import MOST_SEARCHED_ATOMS
from wordfractions.search.decide import decide, find_derivation, refused_table
from wordfractions.search.follow import Follower
from wordfractions.trees.binarize import binarize
from wordfractions.words.phrase import phrase_row

MOST_CHOICES = 1000


def choices(dictionary, words):
    """Return the derivable choices for the phrase, in order."""
    refuse_large_phrase(dictionary, words)
    follower = Follower()
    return tuple([
        choice for choice in _balanced_choices(dictionary, words)
        if follower.has_derivation(choice, dictionary.wish)
    ])


def read_words(dictionary, words):
    """Return ("sentence", choice, derivation, tree) or ("none", table)."""
    refuse_large_phrase(dictionary, words)
    choice = first_choice(dictionary, words, Follower())
    if choice is None:
        return ("none", _refuse_all(dictionary, words))
    _, derivation = decide((choice, dictionary.wish))
    return ("sentence", choice, derivation, binarize(derivation))


def refuse_large_phrase(dictionary, words):
    """Raise the errors of the phrase, and SizeError if it is too large."""
    many = 1
    atoms = size_of(dictionary.wish)
    for kinds in phrase_row(dictionary, words):
        many = many * len(kinds)
        atoms += max([size_of(kind) for kind in kinds], default=0)
    # Without a choice there is nothing that could be too large.
    if many > 0 and (many > MOST_CHOICES or atoms > MOST_SEARCHED_ATOMS):
        raise SizeError("a phrase with too many choices, or too many atoms in one of them")


def first_choice(dictionary, words, follower):
    """Return the first derivable choice, or None, for a phrase that is not too large."""
    for choice in _balanced_choices(dictionary, words):
        if follower.has_derivation(choice, dictionary.wish):
            return choice
    return None


def _balanced_choices(dictionary, words):
    """Return the choices, in order, whose balances do not differ from that of the wish."""
    row_of_kinds = phrase_row(dictionary, words)
    if () in row_of_kinds:
        # The other words alone might have very many choices.
        return []
    rows = [((), Balance())]
    for kinds in row_of_kinds:
        balanced = [(kind, Balance.of(kind)) for kind in kinds]
        rows = [(row + (kind,), product * balance) for row, product in rows for kind, balance in balanced]
    wanted = Balance.of(dictionary.wish)
    return [row for row, product in rows if product == wanted]


def _refuse_all(dictionary, words):
    """Return one closed table for all choices, of which none is derivable."""
    answers = {}
    for choice in _balanced_choices(dictionary, words):
        find_derivation((choice, dictionary.wish), answers)
    return refused_table(answers)
