"""[75], [80], [81]: dictionaries of grammars, trees led to derivations and back."""

import itertools
import random

from tests.helper import Case, derivations
from tests.provable import provable
from tests.rulebook import grammar_by_chance, phrases, reads, rows_that_fit, trees_of, two_part_by_chance
from tests.test_corners import DOUBLE, NOT_TWO_PART, ONE_MORE, SENTENCE, THOUSAND, TREE
from tests.test_dictionary import NOT_WORDS
from wordfractions.errors import FitError, SizeError, WordError
from wordfractions.grammars.convert import derivation_to_tree, grammar_dictionary, symbol_atom, tree_to_derivation
from wordfractions.grammars.corners import corner_rules, tree_to_corners
from wordfractions.grammars.forest import grammar_trees
from wordfractions.grammars.grammar import Grammar
from wordfractions.grammars.text import parse_grammar
from wordfractions.grammars.twopart import grammar_reads, two_part_form
from wordfractions.sequents.faults import first_fault
from wordfractions.sequents.rules import make_axiom, make_step, sequent_of
from wordfractions.words.dictionary import Dictionary
from wordfractions.words.text import format_dictionary

WORDS = ("a", "b")


def lone_word(pairs, heads):
    """A grammar of one word, which these names derive."""
    rules = [(head, tuple(body)) for head, *body in pairs] + [(head, ('"a"',)) for head in heads]
    return Grammar("x", tuple(rules))


SIXTY = lone_word(("xyy", "xxy", "yxy", "zzy", "zxy", "xzz", "xxx", "xzy", "yxx", "yxz", "zyx", "xyz"), "x")
SIXTY_ONE = lone_word(("xzy", "zxy", "zxz", "xxy", "zzy", "zyz", "yyz"), "xyz")
MANY_NAMES = Grammar("n0", tuple((f"n{k}", ('"a"', f"n{k + 1}")) for k in range(11)) + (("n0", ('"b"', '"c"')),))


def kind_of(grammar, corner):
    """The kind of a corner rule, as [80] tells."""
    def atom(symbol):
        if isinstance(symbol, str):
            return symbol
        places = [grammar.names.index(name) for name in symbol]
        return "rest" + str(1000 + places[0] * len(grammar.names) + places[1])[1:]
    symbol, _, rests, _ = corner
    if len(rests) == 0:
        return atom(symbol)
    if len(rests) == 1:
        return ("/", atom(symbol), atom(rests[0]))
    return ("/", ("/", atom(symbol), atom(rests[1])), atom(rests[0]))


class AtomTest(Case):

    def test_names(self):
        for name in ("s", "np", "vp"):
            self.same(symbol_atom(SENTENCE, name), name)

    def test_rests(self):
        for (i, y), (j, x) in itertools.product(enumerate(("s", "np", "vp")), repeat=2):
            self.same(symbol_atom(SENTENCE, (y, x)), f"rest00{3 * i + j}")
        names = tuple(f"n{k}" for k in range(12))
        wide = Grammar("n0", tuple((a, (b, b)) for a, b in zip(names, names[1:])))
        self.same(symbol_atom(wide, ("n11", "n11")), "rest143")
        self.same(symbol_atom(wide, ("n0", "n0")), "rest000")
        self.same(symbol_atom(wide, ("n8", "n5")), "rest101")
        self.same(symbol_atom(wide, ("n1", "n0")), "rest012")

    def test_strange_names(self):
        for symbol in ("x", "mary", '"mary"', "", "rest001", ("s", "x"), ("x", "s"), ("x", "y"), ("np", "mary")):
            self.refuses(FitError, symbol_atom, SENTENCE, symbol)

    def test_grammars_that_are_not_two_part(self):
        for grammar in NOT_TWO_PART:
            for symbol in ("s", ("s", "s"), "x", ("s", "x")):
                self.refuses(FitError, symbol_atom, grammar, symbol)


class DictionaryTest(Case):

    def test_interface_example(self):
        self.same(format_dictionary(grammar_dictionary(SENTENCE)), "wish s\nmary : s / rest003\nsleeps : rest003")

    def test_two_rests(self):
        self.same(format_dictionary(grammar_dictionary(DOUBLE)),
                  "wish x\na : x ; x / rest000 ; rest000 ; rest000 / rest000 ; (rest000 / rest000) / rest000")
        grammar = parse_grammar('start s\ns = a b\na = "p"\nb = c b\nb = "q"\nc = "r"')
        self.same(format_dictionary(grammar_dictionary(grammar)), "\n".join((
            "wish s", "p : s / rest004", "q : rest004 ; rest014", "r : rest004 / rest014 ; rest014 / rest014")))

    def test_against_the_corner_rules(self):
        rng = random.Random(1)
        met = 0
        for _ in range(150):
            grammar = grammar_by_chance(rng, ("s", "t", "k1")[:rng.randint(1, 3)], WORDS, rng.randint(1, 6))
            try:
                form = two_part_form(grammar)
                corners = corner_rules(form)
            except SizeError:
                self.refuses(SizeError, grammar_dictionary, grammar)
                continue
            wanted = {}
            for corner in corners:
                wanted.setdefault(corner[1], {})[kind_of(form, corner)] = True
            if max([len(kinds) for kinds in wanted.values()] or [0]) > 60:
                self.refuses(SizeError, grammar_dictionary, grammar)
                continue
            d = grammar_dictionary(grammar)
            self.assertIsInstance(d, Dictionary)
            self.same(d.wish, grammar.start)
            self.same(d.entries, tuple((word, tuple(kinds)) for word, kinds in wanted.items()))
            self.assertTrue(grammar_dictionary(form) == d)
            met += len(d) > 0
        self.assertGreater(met, 50)

    def test_no_words(self):
        for rows in ("", "s = s", "s = s s", 't = "a"', 's = t u\nt = "a"'):
            d = grammar_dictionary(parse_grammar("start s\n" + rows))
            self.same((d.wish, d.entries), ("s", ()))

    def test_too_large(self):
        # The form, the corner rules, and the kinds of a word.
        self.refuses(SizeError, two_part_form, MANY_NAMES)
        self.refuses(SizeError, grammar_dictionary, MANY_NAMES)
        self.refuses(SizeError, corner_rules, ONE_MORE)
        self.refuses(SizeError, grammar_dictionary, ONE_MORE)
        self.assertLessEqual(len(corner_rules(SIXTY_ONE)), 1000)
        self.refuses(SizeError, grammar_dictionary, SIXTY_ONE)
        self.same(len(grammar_dictionary(SIXTY).kinds_of("a")), 60)
        self.assertEqual(len(grammar_dictionary(THOUSAND)), 32)

    def test_too_many_words(self):
        words = [a + b for a in "abcdefgh" for b in "abcdefgh"]
        self.same(len(grammar_dictionary(Grammar("s", tuple(("s", (f'"{word}"',)) for word in words[:60])))), 60)
        self.refuses(SizeError, grammar_dictionary, Grammar("s", tuple(("s", (f'"{word}"',)) for word in words[:61])))

    def test_it_reads_the_same_phrases(self):
        rng = random.Random(2)
        yes = 0
        for _ in range(60):
            grammar = grammar_by_chance(rng, ("s", "t", "u")[:rng.randint(1, 3)], WORDS, rng.randint(2, 6), (1, 1, 2, 2, 3))
            try:
                d = grammar_dictionary(grammar)
            except SizeError:
                continue
            for words in phrases(WORDS, 4):
                row = [d.kinds_of(word) if word in d else () for word in words]
                if all(row) and len(row[0]) ** len(row) < 3000:
                    sentence = any(provable(choice, d.wish) for choice in itertools.product(*row))
                    self.assertIs(sentence, reads(grammar, words))
                    self.assertIs(sentence, grammar_reads(grammar, words))
                    yes += sentence
        self.assertGreater(yes, 50)


class DerivationTest(Case):

    def judge(self, grammar, tree):
        kinds, derivation = tree_to_derivation(grammar, tree)
        self.same(kinds, tuple(kind_of(grammar, corner) for corner in tree_to_corners(grammar, tree)))
        self.same(sequent_of(derivation), (kinds, grammar.start))
        self.assertIsNone(first_fault(derivation))
        return kinds, derivation

    def judge_back(self, grammar, words, derivation):
        tree = derivation_to_tree(grammar, words, derivation)
        self.assertIn(tree, trees_of(grammar, grammar.start, words))
        self.same(tree_to_derivation(grammar, tree)[0], derivation[1])
        return tree

    def test_a_sentence(self):
        kinds, derivation = self.judge(SENTENCE, TREE)
        self.same(kinds, (("/", "s", "rest003"), "rest003"))
        self.same(derivation, make_step("over left", 0, (make_axiom("rest003"), make_axiom("s"))))
        self.same(self.judge_back(SENTENCE, ("mary", "sleeps"), derivation), TREE)

    def test_a_lone_word(self):
        kinds, derivation = self.judge(DOUBLE, ("x", "a"))
        self.same((kinds, derivation), (("x",), make_axiom("x")))
        self.same(self.judge_back(DOUBLE, ("a",), derivation), ("x", "a"))

    def test_trees_by_chance(self):
        rng = random.Random(3)
        met = 0
        for _ in range(80):
            grammar = two_part_by_chance(rng, ("s", "t", "u")[:rng.randint(1, 3)], WORDS, rng.randint(1, 8))
            for words in phrases(WORDS, 4):
                for tree in trees_of(grammar, grammar.start, words)[:20]:
                    kinds, derivation = self.judge(grammar, tree)
                    try:
                        grammar_dictionary(grammar)
                    except SizeError:
                        self.refuses(SizeError, derivation_to_tree, grammar, words, derivation)
                        continue
                    self.judge_back(grammar, words, derivation)
                    met += 1
        self.assertGreater(met, 200)

    def test_any_choice_that_is_derivable(self):
        """Whatever choice of the dictionary derives the start, a tree is had from it."""
        rng = random.Random(4)
        met = 0
        for _ in range(40):
            grammar = two_part_by_chance(rng, ("s", "t"), WORDS, rng.randint(2, 6))
            d = grammar_dictionary(grammar)
            for words in phrases(WORDS, 3):
                row = [d.kinds_of(word) if word in d else () for word in words]
                corners = corner_rules(grammar)
                fitting = {tuple(kind_of(grammar, corner) for corner in rule_row)
                           for rule_row in rows_that_fit(grammar, corners, 3)
                           if tuple(corner[1] for corner in rule_row) == words}
                for choice in itertools.product(*row):
                    self.assertIs(provable(choice, d.wish), choice in fitting)
                    for derivation in derivations((choice, d.wish)):
                        self.judge_back(grammar, words, derivation)
                        met += 1
        self.assertGreater(met, 100)

    def test_twenty_words(self):
        x = ("x", "a")
        left = right = x
        for _ in range(19):
            left, right = ("x", left, x), ("x", x, right)
        for tree in (left, right):
            self.same(len(self.judge(DOUBLE, tree)[0]), 20)

    def test_six_words(self):
        for tree in grammar_trees(DOUBLE, ("a",) * 6):
            _, derivation = self.judge(DOUBLE, tree)
            self.judge_back(DOUBLE, ("a",) * 6, derivation)

    def test_trees_that_are_none(self):
        for tree in (("np", "mary"), ("s", "mary"), ("s", ("np", "ann"), ("vp", "sleeps")), ("s", ("vp", "sleeps"), ("np", "mary"))):
            self.refuses(FitError, tree_to_derivation, SENTENCE, tree)
        for grammar in NOT_TWO_PART:
            self.refuses(FitError, tree_to_derivation, grammar, ("s", "a"))
        # Too many corner rules are no matter here.
        self.judge(ONE_MORE, ("x", ("y", ("x", "xa"), ("x", "xb")), ("x", "xa")))
        self.judge(SIXTY_ONE, ("x", "a"))

    def test_derivations_that_do_not_fit(self):
        words = ("mary", "sleeps")
        derivation = tree_to_derivation(SENTENCE, TREE)[1]
        n, s = make_axiom("rest003"), make_axiom("s")
        with_cut = make_step("over left", 0, (n, make_step("cut", 0, (s, s))))
        outside = make_step("cut", 0, (derivation, s))
        np = make_axiom("np")
        for wrong in (with_cut, outside, n, s, np, make_step("over left", 0, (n, np)), make_step("over left", 0, (np, s)),
                      make_step("under left", 1, (n, s)), make_step("pair right", 1, (n, s)),
                      make_step("over left", 0, (derivation, s)), make_step("over left", 0, (n, n)),
                      make_step("over right", 0, (derivation,))):
            self.refuses(FitError, derivation_to_tree, SENTENCE, words, wrong)
        for other in (("sleeps", "mary"), ("mary",), ("mary", "mary"), ("mary", "sleeps", "sleeps"), ("ann", "sleeps"),
                      ("mary", "dog")):
            self.refuses(FitError, derivation_to_tree, SENTENCE, other, derivation)
        self.same(derivation_to_tree(SENTENCE, words, derivation), TREE)

    def test_errors_in_the_listed_order(self):
        derivation = make_axiom("x")
        for grammar in NOT_TWO_PART + (ONE_MORE, SIXTY_ONE, DOUBLE):
            for words in ((), ["a"], None, "a"):
                self.refuses(FitError, derivation_to_tree, grammar, words, derivation)
            for text in NOT_WORDS:
                self.refuses(WordError, derivation_to_tree, grammar, ("a",) * 6 + (text,), derivation, word=text)
            self.refuses(SizeError, derivation_to_tree, grammar, ("a",) * 7, derivation)
        for grammar in NOT_TWO_PART:
            self.refuses(FitError, derivation_to_tree, grammar, ("a",), derivation)
        for grammar in (ONE_MORE, SIXTY_ONE):
            self.refuses(SizeError, derivation_to_tree, grammar, ("xa" if grammar == ONE_MORE else "a",), derivation)
