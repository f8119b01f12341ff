"""[2], [3]: where things are defined, what they take, and how deep their calls nest."""

import importlib
import inspect
import pathlib
import re
import sys

from tests.helper import Case, comb, identity
from tests.test_derivation_rows import chain
from wordfractions.books.book import Book
from wordfractions.books.chart import fill_chart, read_row
from wordfractions.books.least import least_words
from wordfractions.cuts.compose import compose
from wordfractions.cuts.eliminate import eliminate_cuts
from wordfractions.cuts.identity import identity as lone
from wordfractions.cuts.substitute import substitute
from wordfractions.desk.completion import complete
from wordfractions.desk.deeds import parse_deed
from wordfractions.desk.desk import Desk
from wordfractions.grammars.convert import tree_to_derivation
from wordfractions.grammars.corners import corners_to_tree, tree_to_corners
from wordfractions.grammars.forest import tree_words
from wordfractions.grammars.text import parse_grammar
from wordfractions.kinds.balance import Balance
from wordfractions.kinds.order import kind_before
from wordfractions.kinds.shape import is_kind, mirror_kind, substitute_kind
from wordfractions.kinds.text import format_kind, parse_kind
from wordfractions.meanings.derivations import derivation_value
from wordfractions.middles.interpolate import interpolate
from wordfractions.middles.mirror import mirror_derivation
from wordfractions.middles.numbers import number_axioms, unnumber
from wordfractions.search.count import count_derivations
from wordfractions.search.decide import decide
from wordfractions.search.listing import derivation_at, derivations_of, index_of
from wordfractions.sequents.faults import count_steps, first_fault
from wordfractions.sequents.rows import format_derivation, parse_derivation
from wordfractions.sequents.rules import make_step, sequent_of
from wordfractions.trees.back import tree_derivation
from wordfractions.trees.binarize import binarize
from wordfractions.trees.meaning import tree_value
from wordfractions.trees.shape import format_tree, leaves_of, tree_fault
from wordfractions.whole import trace_phrase
from wordfractions.words.dictionary import Dictionary

INTERFACE = {
    "kinds.shape": {
        "is_kind": "thing", "size_of": "kind", "signs_of": "kind", "atoms_of": "kind", "count_of": "kind atom",
        "base_of": "atom", "atom_number": "atom", "mirror_kind": "kind", "substitute_kind": "kind atom other"},
    "kinds.text": {"format_kind": "kind", "parse_kind": "text *shorts"},
    "kinds.order": {
        "kind_before": "first second", "number_of_kinds": "many size", "kinds_up_to": "atoms most"},
    "kinds.balance": {"Balance": "letters", "multiply": "**balances"},
    "sequents.sequent": {
        "make_sequent": "premises goal", "count_signs": "sequent", "count_atoms": "sequent",
        "balances_differ": "sequent", "mirror_sequent": "sequent"},
    "sequents.text": {"format_sequent": "sequent", "parse_sequent": "text"},
    "sequents.rules": {"make_axiom": "atom", "make_step": "rule at parts", "sequent_of": "derivation"},
    "sequents.steps": {"last_steps": "sequent"},
    "sequents.faults": {
        "first_fault": "derivation *allow_cuts", "count_steps": "derivation", "is_cut_free": "derivation",
        "walk_steps": "derivation"},
    "sequents.rows": {"format_derivation": "derivation", "parse_derivation": "text"},
    "sequents.tables": {"is_closed": "table", "closes": "table sequent"},
    "search.decide": {"decide": "sequent", "derivable": "sequent"},
    "search.count": {"count_derivations": "sequent"},
    "search.listing": {
        "derivation_at": "sequent index", "derivations_of": "sequent", "index_of": "derivation"},
    "cuts.identity": {"identity": "kind"},
    "cuts.compose": {"compose": "first second at"},
    "cuts.eliminate": {"eliminate_cuts": "derivation"},
    "cuts.substitute": {"substitute": "derivation atom kind"},
    "cuts.ways": {
        "to_over": "derivation", "from_over": "derivation", "to_under": "derivation", "from_under": "derivation",
        "to_pair": "derivation at", "from_pair": "derivation at", "apply_over": "a b", "apply_under": "a b",
        "pair_up": "a b", "lift_over": "a b", "lift_under": "a b", "chain_over": "a b c", "chain_under": "a b c",
        "divide_over": "a b c", "divide_under": "a b c", "curry_over": "a b c", "uncurry_over": "a b c",
        "curry_under": "a b c", "uncurry_under": "a b c", "swap_over": "a b c", "swap_under": "a b c",
        "regroup_left": "a b c", "regroup_right": "a b c"},
    "meanings.values": {
        "count_values": "kind world", "apply_value": "kind world value argument", "build_value": "kind world entries",
        "pair_value": "kind world first second", "split_value": "kind world value"},
    "meanings.derivations": {"derivation_value": "derivation world values"},
    "middles.mirror": {"mirror_derivation": "derivation"},
    "middles.numbers": {"number_axioms": "derivation", "unnumber_kind": "kind", "unnumber": "derivation"},
    "middles.interpolate": {"interpolate": "derivation start stop"},
    "trees.neighbours": {"neighbours": "balances"},
    "trees.binarize": {"binarize": "derivation"},
    "trees.back": {"tree_derivation": "tree"},
    "trees.meaning": {"tree_value": "tree world values"},
    "trees.shape": {
        "tree_kind": "tree", "leaves_of": "tree", "count_nodes": "tree", "largest_size": "tree", "tree_fault": "tree",
        "format_tree": "tree"},
    "words.dictionary": {"Dictionary": "wish entries"},
    "words.phrase": {"check_phrase": "words", "phrase_row": "dictionary words"},
    "words.text": {"format_dictionary": "dictionary", "parse_dictionary": "text"},
    "books.book": {"Book": "atoms most"},
    "books.chart": {"fill_chart": "book row", "read_row": "book row wish"},
    "books.least": {"least_words": "book choices"},
    "books.phrases": {"dictionary_book": "dictionary", "book_reads": "dictionary words"},
    "grammars.grammar": {"Grammar": "start rules"},
    "grammars.text": {"format_grammar": "grammar", "parse_grammar": "text"},
    "grammars.twopart": {"two_part_form": "grammar", "grammar_reads": "grammar words"},
    "grammars.forest": {"grammar_trees": "grammar words", "count_trees": "grammar words", "tree_words": "tree"},
    "grammars.corners": {
        "corner_rules": "grammar", "tree_to_corners": "grammar tree", "corners_to_tree": "grammar corners",
        "count_corner_trees": "grammar words"},
    "grammars.convert": {
        "symbol_atom": "grammar symbol", "grammar_dictionary": "grammar", "tree_to_derivation": "grammar tree",
        "derivation_to_tree": "grammar words derivation"},
    "desk.reading": {"choices": "dictionary words", "read_words": "dictionary words"},
    "desk.deeds": {"format_deed": "deed", "parse_deed": "text"},
    "desk.desk": {"Desk": "dictionary"},
    "desk.completion": {"complete": "dictionary words most"},
    "desk.report": {"report": "desk"},
    "whole": {"trace_phrase": "dictionary words"},
}
METHODS = {
    "words.dictionary": {"kinds_of": "self word", "with_wish": "self kind", "with_kind": "self word kind",
                         "without_kind": "self word kind"},
    "books.book": {"unary": "self kind", "binary": "self left right", "derivation": "self kind parts"},
    "desk.desk": {
        "put": "self word kind", "drop": "self word kind", "set_wish": "self kind", "watch": "self words",
        "unwatch": "self words", "undo": "self", "verdicts": "self", "read": "self words", "do": "self text",
        "do_all": "self texts"},
}
CLASS_METHODS = {
    "books.book": {"Book": {"covering": "first **others"}}, "desk.desk": {"Desk": {"from_journal": "text"}},
}
MARKS = {inspect.Parameter.KEYWORD_ONLY: "*", inspect.Parameter.VAR_POSITIONAL: "**"}


def parameters(thing):
    found = inspect.signature(thing).parameters.values()
    return " ".join(MARKS.get(parameter.kind, "") + parameter.name for parameter in found)


class InterfaceTest(Case):

    def test_names_and_arguments(self):
        for name, things in INTERFACE.items():
            module = importlib.import_module("wordfractions." + name)
            for thing, wanted in things.items():
                found = getattr(module, thing)
                self.assertEqual(found.__module__, module.__name__, thing)
                self.assertEqual(parameters(found), wanted, thing)

    def test_methods(self):
        for name, methods in METHODS.items():
            module = importlib.import_module("wordfractions." + name)
            (owner,) = [getattr(module, thing) for thing in INTERFACE[name]]
            for method, wanted in methods.items():
                self.assertEqual(parameters(vars(owner)[method]), wanted)

    def test_class_methods(self):
        for name, owners in CLASS_METHODS.items():
            module = importlib.import_module("wordfractions." + name)
            for owner, methods in owners.items():
                for method, wanted in methods.items():
                    self.assertIsInstance(vars(getattr(module, owner))[method], classmethod)
                    self.assertEqual(parameters(getattr(getattr(module, owner), method)), wanted)

    def test_defaults(self):
        self.assertEqual(inspect.signature(parse_kind).parameters["shorts"].default, ())
        self.assertIs(inspect.signature(first_fault).parameters["allow_cuts"].default, False)
        self.assertEqual(inspect.signature(Balance).parameters["letters"].default, ())
        self.assertEqual(inspect.signature(Dictionary).parameters["entries"].default, ())


class FoldersTest(Case):

    def test_the_order_in_which_folders_build_on_one_another(self):
        """[1]: no folder needs one that comes behind it."""
        order = "kinds sequents search cuts meanings middles trees words books grammars desk".split()
        package = pathlib.Path(__file__).resolve().parent.parent / "wordfractions"
        self.assertEqual({path.name for path in package.iterdir() if path.is_dir() and path.name[0] != "_"}, set(order))
        for path in package.glob("*/*.py"):
            for name in re.findall(r"from wordfractions\.(\w+)\.", path.read_text()):
                self.assertLessEqual(order.index(name), order.index(path.parent.name), path)


class DepthTest(Case):
    """Within the bounds a few hundred calls within one another are enough."""

    def setUp(self):
        limit = sys.getrecursionlimit()
        self.addCleanup(sys.setrecursionlimit, limit)
        sys.setrecursionlimit(len(inspect.stack()) + 250)

    def test_kinds(self):
        kind = comb(40)
        self.assertTrue(is_kind(kind))
        self.assertTrue(mirror_kind(kind) != kind)
        self.assertTrue(substitute_kind(kind, "n", "s") == comb(40, "s"))
        self.assertTrue(kind_before(kind, comb(40, left=False)) is False)
        self.assertTrue(len(Balance.of(kind)) == 38)
        self.assertTrue(parse_kind(format_kind(kind)) == kind)
        self.assertTrue(parse_kind("(" * 199 + "n" + ")" * 199) == "n")

    def test_derivations(self):
        deep = chain(199)
        self.assertTrue(first_fault(deep, allow_cuts=True) is None)
        self.assertTrue(count_steps(deep) == 199)
        self.assertTrue(format_derivation(parse_derivation(format_derivation(deep))) == format_derivation(deep))

    def test_search(self):
        deep = (("n",), ("/", comb(10, sign=">", left=False), comb(9, left=False)))
        self.assertTrue(decide(deep)[0] == "refused")
        raised = identity(comb(12, left=False))
        sequent = sequent_of(raised)
        self.assertTrue(decide(sequent)[0] == "derived")
        self.assertTrue(count_derivations(sequent) > 0)
        self.assertTrue(derivation_at(sequent, index_of(raised)) == raised)
        self.assertTrue(len(list(derivations_of(sequent))) == count_derivations(sequent))

    def test_derivations_made_of_derivations(self):
        for sign in "/>*":
            for left in (True, False):
                kind = comb(40, sign=sign, left=left)
                made = lone(kind)
                self.assertTrue(sequent_of(compose(made, made, 0)) == ((kind,), kind))
                self.assertTrue(eliminate_cuts(made) == made)
                self.assertTrue(substitute(made, "n", "s") != made)
                self.assertTrue(derivation_value(made, {}, (0,)) == 0)
                self.assertTrue(mirror_derivation(mirror_derivation(made)) == made)
                self.assertTrue(unnumber(number_axioms(made)) == made)
                self.assertTrue(interpolate(made, 0, 1)[0] != "n")
                self.assertTrue(binarize(made)[0] == "unary")

    def test_deep_derivations(self):
        deep = chain(199)
        self.assertTrue(eliminate_cuts(deep) == ("axiom", ("n",), "n", 0, 0, ()))
        self.assertTrue(derivation_value(deep, {"n": 2}, (1,)) == 1)
        self.assertTrue(mirror_derivation(deep) == deep)
        self.assertTrue(unnumber(deep) == deep)
        long = ("axiom", ("n",), "n", 0, 0, ())
        for _ in range(39):
            long = make_step("over left", 0, (long, ("axiom", ("n",), "n", 0, 0, ())))
        for _ in range(19):
            long = make_step("over right" if len(long[1]) > 30 else "under right", 0, (long,))
        self.assertTrue(binarize(long)[0] == "binary")
        self.assertTrue(interpolate(long, 0, 1)[0] != "")
        self.assertTrue(derivation_value(long, {"n": 1}, (0,) * 21) == 0)
        self.assertTrue(sequent_of(compose(long, lone(long[2]), 0)) == sequent_of(long))

    def test_trees(self):
        tree = ("leaf", "n")
        for _ in range(60):
            tree = ("unary", "n", tree, identity("n"))
        self.assertTrue(tree_fault(tree) is None)
        self.assertTrue(leaves_of(tree) == ("n",))
        self.assertTrue(len(format_tree(tree).split("\n")) == 61)
        self.assertTrue(tree_derivation(tree) == identity("n"))
        self.assertTrue(tree_value(tree, {"n": 2}, (1,)) == 1)
        wide = comb(40)
        tree = ("leaf", wide)
        for _ in range(60):
            tree = ("unary", wide, tree, identity(wide))
        self.assertTrue(tree_derivation(tree) == identity(wide))
        self.assertTrue(tree_value(tree, {}, (0,)) == 0)

    def test_grammars(self):
        grammar = parse_grammar('start x\nx = "a"\nx = x x')
        left = right = ("x", "a")
        for _ in range(19):
            left, right = ("x", left, ("x", "a")), ("x", ("x", "a"), right)
        for tree in (left, right):
            self.assertTrue(len(tree_words(tree)) == 20)
            self.assertTrue(corners_to_tree(grammar, tree_to_corners(grammar, tree)) == tree)
            self.assertTrue(len(tree_to_derivation(grammar, tree)[0]) == 20)

    def test_desks(self):
        wide = comb(8)
        desk = Desk(Dictionary(wide, (("a", (comb(8), comb(7, left=False), "n")),)))
        desk.watch(("a", "a"))
        self.assertTrue(desk.verdicts() == ((("a", "a"), False),))
        self.assertTrue(complete(desk.dictionary, (), 2) == ("a",))
        self.assertTrue(trace_phrase(desk.dictionary, ("a",))[0] == (wide,))
        self.assertTrue(Desk.from_journal(desk.journal).watched == desk.watched)
        self.assertTrue(parse_deed("wish " + "(" * 199 + "n" + ")" * 199) == ("wish", "n"))

    def test_books(self):
        book = Book(("n",), 4)
        rows = (("n", comb(4), comb(4, left=False)),) * 8
        self.assertTrue(len(fill_chart(book, rows)) == 36)
        self.assertTrue(read_row(book, rows, "n") is None or tree_fault(read_row(book, rows, "n")) is None)
        self.assertTrue(least_words(book, (("word", "n"),))["n"] == 1)
