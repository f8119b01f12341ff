"""[2], [3]: where things are defined, what they take, and how deep their calls nest."""

import importlib
import inspect
import sys

from tests.helper import Case, comb, identity
from tests.test_derivation_rows import chain
from wordfractions.kinds.balance import Balance
from wordfractions.kinds.order import kind_before
from wordfractions.kinds.shape import is_kind, mirror_kind, substitute_kind
from wordfractions.kinds.text import format_kind, parse_kind
from wordfractions.sequents.faults import count_steps, first_fault
from wordfractions.sequents.rows import format_derivation, parse_derivation
from wordfractions.trees.shape import format_tree, leaves_of, tree_fault
from wordfractions.words.dictionary import Dictionary

INTERFACE = {
    "kinds.shape": {
        "is_kind": "thing", "size_of": "kind", "signs_of": "kind", "atoms_of": "kind", "count_of": "kind atom",
        "base_of": "atom", "atom_number": "atom", "mirror_kind": "kind", "substitute_kind": "kind atom other"},
    "kinds.text": {"format_kind": "kind", "parse_kind": "text *shorts"},
    "kinds.order": {
        "kind_before": "first second", "number_of_kinds": "many size", "kinds_up_to": "atoms most"},
    "kinds.balance": {"Balance": "letters", "multiply": "**balances"},
    "sequents.sequent": {
        "make_sequent": "premises goal", "count_signs": "sequent", "count_atoms": "sequent",
        "balances_differ": "sequent", "mirror_sequent": "sequent"},
    "sequents.text": {"format_sequent": "sequent", "parse_sequent": "text"},
    "sequents.rules": {"make_axiom": "atom", "make_step": "rule at parts", "sequent_of": "derivation"},
    "sequents.steps": {"last_steps": "sequent"},
    "sequents.faults": {
        "first_fault": "derivation *allow_cuts", "count_steps": "derivation", "is_cut_free": "derivation",
        "walk_steps": "derivation"},
    "sequents.rows": {"format_derivation": "derivation", "parse_derivation": "text"},
    "trees.shape": {
        "tree_kind": "tree", "leaves_of": "tree", "count_nodes": "tree", "largest_size": "tree", "tree_fault": "tree",
        "format_tree": "tree"},
    "words.dictionary": {"Dictionary": "wish entries"},
    "words.text": {"format_dictionary": "dictionary", "parse_dictionary": "text"},
    "grammars.grammar": {"Grammar": "start rules"},
    "grammars.text": {"format_grammar": "grammar", "parse_grammar": "text"},
}
METHODS = {
    "words.dictionary": {"kinds_of": "self word", "with_wish": "self kind", "with_kind": "self word kind",
                         "without_kind": "self word kind"},
}
MARKS = {inspect.Parameter.KEYWORD_ONLY: "*", inspect.Parameter.VAR_POSITIONAL: "**"}


def parameters(thing):
    found = inspect.signature(thing).parameters.values()
    return " ".join(MARKS.get(parameter.kind, "") + parameter.name for parameter in found)


class InterfaceTest(Case):

    def test_names_and_arguments(self):
        for name, things in INTERFACE.items():
            module = importlib.import_module("wordfractions." + name)
            for thing, wanted in things.items():
                found = getattr(module, thing)
                self.assertEqual(found.__module__, module.__name__, thing)
                self.assertEqual(parameters(found), wanted, thing)

    def test_methods(self):
        for name, methods in METHODS.items():
            module = importlib.import_module("wordfractions." + name)
            (owner,) = [getattr(module, thing) for thing in INTERFACE[name]]
            for method, wanted in methods.items():
                self.assertEqual(parameters(vars(owner)[method]), wanted)

    def test_defaults(self):
        self.assertEqual(inspect.signature(parse_kind).parameters["shorts"].default, ())
        self.assertIs(inspect.signature(first_fault).parameters["allow_cuts"].default, False)
        self.assertEqual(inspect.signature(Balance).parameters["letters"].default, ())
        self.assertEqual(inspect.signature(Dictionary).parameters["entries"].default, ())


class DepthTest(Case):
    """Within the bounds a few hundred calls within one another are enough."""

    def setUp(self):
        limit = sys.getrecursionlimit()
        self.addCleanup(sys.setrecursionlimit, limit)
        sys.setrecursionlimit(len(inspect.stack()) + 250)

    def test_kinds(self):
        kind = comb(40)
        self.assertTrue(is_kind(kind))
        self.assertTrue(mirror_kind(kind) != kind)
        self.assertTrue(substitute_kind(kind, "n", "s") == comb(40, "s"))
        self.assertTrue(kind_before(kind, comb(40, left=False)) is False)
        self.assertTrue(len(Balance.of(kind)) == 38)
        self.assertTrue(parse_kind(format_kind(kind)) == kind)
        self.assertTrue(parse_kind("(" * 199 + "n" + ")" * 199) == "n")

    def test_derivations(self):
        deep = chain(199)
        self.assertTrue(first_fault(deep, allow_cuts=True) is None)
        self.assertTrue(count_steps(deep) == 199)
        self.assertTrue(format_derivation(parse_derivation(format_derivation(deep))) == format_derivation(deep))

    def test_trees(self):
        tree = ("leaf", "n")
        for _ in range(60):
            tree = ("unary", "n", tree, identity("n"))
        self.assertTrue(tree_fault(tree) is None)
        self.assertTrue(leaves_of(tree) == ("n",))
        self.assertTrue(len(format_tree(tree).split("\n")) == 61)
