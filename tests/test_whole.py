"""[1], [46], [57], [59], [83]: a phrase traced through the whole program, and what holds over all of it."""

import itertools
import random

from tests.helper import Case
from tests.provable import provable
from tests.rulebook import phrases, reads, two_part_by_chance
from tests.test_binarize import largest_in, value_of_tree
from tests.test_dictionary import NOT_WORDS
from tests.test_reading import NEWS, UNARY
from tests.worlds import WORLDS, choices as values_of, largest_count, value_of
from wordfractions.books.phrases import book_reads, dictionary_book
from wordfractions.desk.reading import choices, read_words
from wordfractions.errors import FitError, SizeError, WordError
from wordfractions.grammars.convert import grammar_dictionary
from wordfractions.kinds.order import kinds_up_to
from wordfractions.kinds.shape import atoms_of, size_of
from wordfractions.middles.numbers import number_axioms, unnumber
from wordfractions.search.decide import decide
from wordfractions.sequents.faults import first_fault
from wordfractions.sequents.rules import sequent_of
from wordfractions.sequents.tables import closes
from wordfractions.trees.shape import leaves_of, tree_fault, tree_kind, walk_nodes
from wordfractions.whole import trace_phrase
from wordfractions.words.dictionary import Dictionary
from wordfractions.words.phrase import phrase_row


class TraceTest(Case):

    def judge(self, dictionary, words, rng):
        found = choices(dictionary, words)
        traced = trace_phrase(dictionary, words)
        if not found:
            self.assertIsNone(traced)
            return 0
        self.assertIs(type(traced), tuple)
        choice, derivation, numbered, tree, back = traced
        self.same(choice, found[0])
        for made in (derivation, back):
            self.same(sequent_of(made), (choice, dictionary.wish))
            self.assertIsNone(first_fault(made))
        self.same(numbered, number_axioms(derivation))
        self.same(unnumber(numbered), derivation)
        premises, goal = sequent_of(numbered)
        atoms = [atom for kind in premises + (goal,) for atom in atoms_of(kind)]
        self.assertTrue(all(atoms.count(atom) == 2 for atom in atoms))
        self.assertIsNone(tree_fault(tree))
        self.same((leaves_of(tree), tree_kind(tree)), (choice, dictionary.wish))
        largest = max(size_of(kind) for kind in choice + (dictionary.wish,))
        self.assertTrue(all(size_of(node[1]) <= largest for _, node in walk_nodes(tree)))
        for world in WORLDS:
            if max(largest_count(derivation, world), largest_in(tree, world), largest_count(back, world)) <= 10 ** 4:
                for values in values_of(choice, world, rng, 6):
                    wanted = value_of(derivation, world, values)
                    self.assertEqual(value_of_tree(tree, world, values), wanted)
                    self.assertEqual(value_of(back, world, values), wanted)
        return len(words)

    def test_phrases(self):
        rng = random.Random(1)
        met = set()
        for many in (1, 2, 3):
            for words in itertools.product(("mary", "ann", "sees", "sleeps", "not", "that", "dog"), repeat=many):
                met.add(self.judge(NEWS, words, rng))
        for words in (("not", "mary", "sees", "ann"), ("not", "not", "mary", "sees", "that", "mary"), ("ann", "sleeps"),
                      ("mary", "sees", "that", "ann", "sleeps", "sleeps")):
            met.add(self.judge(NEWS, words, rng))
        one = Dictionary(("/", "s", (">", "n", "s")), (("mary", ("s", "n")), ("ann", (("/", "s", (">", "n", "s")),))))
        for word in ("mary", "ann", "dog"):
            met.add(self.judge(one, (word,), rng))
        self.assertGreaterEqual(met, {0, 1, 2, 3, 4})

    def test_dictionaries_by_chance(self):
        rng = random.Random(2)
        for atoms, most in ((("n",), 3), (("n", "s"), 2), (("n",), 2)):
            kinds = kinds_up_to(atoms, most)
            for _ in range(25):
                d = Dictionary(rng.choice(kinds[:12]), tuple((word, tuple(rng.sample(kinds, rng.randint(1, 3)))) for word in "abc"))
                self.judge(d, tuple(rng.choice("abc") for _ in range(rng.randint(1, 4))), rng)

    def test_errors_of_choices(self):
        wide = Dictionary("n", (("a", UNARY), ("b", UNARY)))
        for d in (NEWS, wide):
            for words in ((), ["mary"], None, "mary"):
                self.refuses(FitError, trace_phrase, d, words)
            for text in NOT_WORDS:
                self.refuses(WordError, trace_phrase, d, ("mary",) * 6 + (text,), word=text)
            self.refuses(SizeError, trace_phrase, d, ("mary",) * 7)
        self.refuses(SizeError, trace_phrase, wide, ("a", "b", "a"))
        self.assertIsNone(trace_phrase(wide, ("a", "b", "a", "x")))


class PromisesTest(Case):
    """What [1] promises, from one end of the program to the other."""

    def test_one_sort_of_certificate(self):
        kinds = kinds_up_to(("n",), 3)
        for premises in itertools.islice(itertools.product(kinds, repeat=2), 0, None, 3):
            for goal in kinds[::4]:
                status, certificate = decide((premises, goal))
                self.assertEqual(status == "derived", provable(premises, goal))
                if status == "derived":
                    self.assertIsNone(first_fault(certificate))
                    self.assertFalse(closes((), (premises, goal)))
                else:
                    self.assertTrue(closes(certificate, (premises, goal)))

    def test_books_desks_and_search_agree(self):
        rng = random.Random(3)
        yes = 0
        for _ in range(160):
            kinds = kinds_up_to(("n", "s"), 2)
            d = Dictionary(rng.choice(kinds[:4]), tuple((word, tuple(rng.sample(kinds, rng.randint(1, 3)))) for word in "abc"))
            words = tuple(rng.choice("abc") for _ in range(rng.randint(1, 5)))
            sentence = any(provable(choice, d.wish) for choice in itertools.product(*phrase_row(d, words)))
            self.assertIs(read_words(d, words)[0] == "sentence", sentence)
            self.assertIs(book_reads(d, words) is not None, sentence)
            largest = max(size_of(kind) for kind in (d.wish, *[kind for _, borne in d.entries for kind in borne]))
            self.assertEqual(dictionary_book(d).most, largest)
            yes += sentence
        self.assertGreater(yes, 5)

    def test_grammars_and_their_dictionaries_agree(self):
        rng = random.Random(4)
        yes = 0
        for _ in range(40):
            grammar = two_part_by_chance(rng, ("s", "t", "u"), ("a", "b"), rng.randint(2, 6))
            d = grammar_dictionary(grammar)
            for words in phrases(("a", "b"), 4):
                try:
                    sentence = read_words(d, words)[0] == "sentence"
                except SizeError:
                    continue
                self.assertIs(sentence, reads(grammar, words))
                yes += sentence
        self.assertGreater(yes, 30)
