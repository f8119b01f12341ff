"""Grammars led to dictionaries, and their trees to derivations and back."""

from wordfractions.errors import FitError
from wordfractions.grammars.corners import corner_rules, corners_to_tree, tree_to_corners
from wordfractions.grammars.forest import refuse_other_forms
from wordfractions.grammars.symbols import RESTS, SYMBOL, WORD
from wordfractions.grammars.twopart import two_part_form
from wordfractions.sequents.faults import is_cut_free
from wordfractions.sequents.rules import make_axiom, make_step
from wordfractions.words.dictionary import Dictionary
from wordfractions.words.phrase import check_phrase

REST_BEGINNING = "rest"


def symbol_atom(grammar, symbol):
    """Return the atom of a name or a rest."""
    refuse_other_forms(grammar)
    names = (symbol,) if isinstance(symbol, str) else symbol
    for name in names:
        if name not in grammar.names:
            raise FitError("a name that the grammar does not have")
    return _atom(grammar, symbol)


def _atom(grammar, symbol):
    if isinstance(symbol, str):
        return symbol
    found, wanted = symbol
    number = grammar.names.index(found) * len(grammar.names) + grammar.names.index(wanted)
    return f"{REST_BEGINNING}{number:03d}"


def _corner_kind(grammar, corner):
    """Return the kind of the corner rule: it asks for its rests, the first one first."""
    kind = _atom(grammar, corner[SYMBOL])
    for rest in reversed(corner[RESTS]):
        kind = ("/", kind, _atom(grammar, rest))
    return kind


def grammar_dictionary(grammar):
    """Return the dictionary that reads the same phrases as the grammar."""
    form = two_part_form(grammar)
    kinds = {}
    for corner in corner_rules(form):
        borne = kinds.get(corner[WORD], ())
        kind = _corner_kind(form, corner)
        if kind not in borne:
            kinds[corner[WORD]] = borne + (kind,)
    return Dictionary(form.start, tuple(kinds.items()))


def tree_to_derivation(grammar, tree):
    """Return the kinds of the tree's corner rules, and a derivation of the start from them."""
    kinds = [_corner_kind(grammar, corner) for corner in tree_to_corners(grammar, tree)]
    derivation, _ = _derive(kinds, 0)
    return tuple(kinds), derivation


def _derive(kinds, place):
    """Return (derivation, stop): that of an atom from the kind at the place and those behind it.

    Each kind takes what it asks for from the kinds behind it, in order.
    """
    kind = kinds[place]
    place += 1
    arguments = []
    while not isinstance(kind, str):
        argument, place = _derive(kinds, place)
        arguments.append(argument)
        kind = kind[1]
    derivation = make_axiom(kind)
    for argument in reversed(arguments):
        derivation = make_step("over left", 0, (argument, derivation))
    return derivation, place


def derivation_to_tree(grammar, words, derivation):
    """Return a tree of the start over the phrase whose corner rules have the premises as kinds."""
    check_phrase(words)
    refuse_other_forms(grammar)
    premises = derivation[1]
    if not is_cut_free(derivation) or derivation[2] != grammar.start or len(premises) != len(words):
        raise FitError("not a derivation without cuts of the start from one premise for each word")
    dictionary = grammar_dictionary(grammar)
    for word, kind in zip(words, premises):
        if word not in dictionary or kind not in dictionary.kinds_of(word):
            raise FitError("a premise that its word does not bear")
    return corners_to_tree(grammar, _pick_corners(grammar, words, premises))


def _pick_corners(grammar, words, premises):
    """Return a corner rule for each word and its kind.

    Those with the same word and kind have the same symbol and rests, so it
    does not matter for a tree which of them is taken.
    """
    corners = corner_rules(grammar)
    picked = []
    for word, kind in zip(words, premises):
        fitting = [
            corner for corner in corners if corner[WORD] == word and _corner_kind(grammar, corner) == kind
        ]
        picked.append(fitting[0])
    return tuple(picked)
