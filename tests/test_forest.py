"""[62], [76]: trees of grammars."""

import random
import time

from tests.helper import Case
from tests.rulebook import phrases, reads, tree_key, trees_of, two_part_by_chance, words_of
from tests.test_dictionary import NOT_WORDS
from wordfractions.errors import FitError, SizeError, WordError
from wordfractions.grammars.forest import count_trees, grammar_trees, tree_words
from wordfractions.grammars.grammar import Grammar
from wordfractions.grammars.text import parse_grammar

DOUBLE = parse_grammar('start x\nx = "a"\nx = x x')
WORDS = ("a", "b")


class ForestTest(Case):

    def judge(self, grammar, words):
        wanted = sorted(trees_of(grammar, grammar.start, words), key=lambda tree: tree_key(grammar, tree))
        self.same(count_trees(grammar, words), len(wanted))
        if len(wanted) > 500:
            self.refuses(SizeError, grammar_trees, grammar, words)
        else:
            self.same(grammar_trees(grammar, words), tuple(wanted))
        for tree in wanted:
            self.same(tree_words(tree), words)
        return wanted

    def test_interface_example(self):
        self.same((grammar_trees(DOUBLE, ("a", "a")), count_trees(DOUBLE, ("a", "a", "a"))),
                  ((('x', ('x', 'a'), ('x', 'a')),), 2))

    def test_the_order(self):
        """The rule decides, then the number of words on the left, then the left tree, then the right tree."""
        self.same(grammar_trees(DOUBLE, ("a",) * 3), (
            ("x", ("x", "a"), ("x", ("x", "a"), ("x", "a"))), ("x", ("x", ("x", "a"), ("x", "a")), ("x", "a"))))
        for rows in ('s = t u\ns = u t\nt = "a"\nu = "a"\nt = t u\nu = u t', 's = s s\ns = "a"\ns = t s\nt = "a"\ns = s t',
                     's = t t\nt = "a"\nt = t t\ns = "a"\nt = s s'):
            grammar = parse_grammar("start s\n" + rows)
            for many in range(1, 6):
                self.judge(grammar, ("a",) * many)
        one = parse_grammar('start s\ns = t u\ns = u t\nt = "a"\nu = "a"')
        other = parse_grammar('start s\ns = u t\nt = "a"\nu = "a"\ns = t u')
        self.same(grammar_trees(one, ("a", "a")), grammar_trees(other, ("a", "a"))[::-1])

    def test_grammars_by_chance(self):
        rng = random.Random(1)
        met = 0
        for _ in range(60):
            grammar = two_part_by_chance(rng, ("s", "t", "u")[:rng.randint(1, 3)], WORDS, rng.randint(1, 9))
            for words in phrases(WORDS, 4):
                trees = self.judge(grammar, words)
                self.assertIs(bool(trees), reads(grammar, words))
                met += len(trees) > 1
        self.assertGreater(met, 100)

    def test_five_hundred_and_one_more(self):
        def wide(many, lead):
            """A grammar with many * lead trees over two words."""
            heads = [f"a{k}" for k in range(many)]
            rules = [("s", (a, b)) for a in heads for b in heads[:lead]] + [(a, ('"a"',)) for a in heads]
            return Grammar("s", tuple(rules))
        self.same(len(grammar_trees(wide(10, 10), ("a", "a"))), 100)
        # 501 = 3 * 167 and 500 = 4 * 125 trees: a chain of rows that are added up.
        names = [f"b{k}" for k in range(10)]

        def counted(numbers):
            """s has over three words the sum of these numbers of trees, each a product of two."""
            rules = []
            for place, (left, right) in enumerate(numbers):
                rules.append(("s", (f"l{place}", f"r{place}")))
                rules.extend((f"l{place}", (x, y)) for x, y in [(x, y) for x in names[:6] for y in names[:6]][:left])
                rules.extend((f"r{place}", (x, y)) for x, y in [(x, y) for x in names[:6] for y in names[:6]][:right])
            rules.extend((name, ('"a"',)) for name in names[:6])
            return Grammar("s", tuple(rules))
        for numbers, total in ((((20, 25),), 500), (((20, 25), (1, 1)), 501), (((3, 34), (19, 21)), 501),
                               (((25, 20),), 500), (((30, 30),), 900)):
            grammar = counted(numbers)
            self.same(sum(a * b for a, b in numbers), total)
            self.same(count_trees(grammar, ("a",) * 4), total)
            self.assertEqual(len(self.judge(grammar, ("a",) * 4)), total)

    def test_very_many_trees(self):
        begun = time.perf_counter()
        names = [f"n{k}" for k in range(6)]
        rules = tuple((a, (b, c)) for a in names[:3] for b in names for c in names) + tuple((a, ('"a"',)) for a in names)
        grammar = Grammar("n0", rules)
        # By [76] every inner node is one of three names, every leaf one of six, over one of 42 shapes.
        self.assertGreater(count_trees(grammar, ("a",) * 6), 10 ** 6)
        self.refuses(SizeError, grammar_trees, grammar, ("a",) * 6)
        self.same(count_trees(grammar, ("a",) * 2), 36)
        # A part with very many trees beside one without any.
        self.assertLess(time.perf_counter() - begun, 10)
        begun = time.perf_counter()
        rules = tuple((a, (b, c)) for a in names[:4] for b in names[:5] for c in names[:5]) + rules[-6:]
        for body in (("n0", "t"), ("t", "n0")):
            beside = Grammar("s", rules + (("s", body), ("s", ('"b"',))))
            self.same(grammar_trees(beside, ("a",) * 6), ())
            self.same(grammar_trees(beside, ("b",)), (("s", "b"),))
        self.assertLess(time.perf_counter() - begun, 2)

    def test_no_trees(self):
        for rows, words in (("", ("a",)), ("s = s s", ("a", "a")), ("s = t u\nt = \"a\"", ("a", "a")), ('t = "a"', ("a",)),
                            ('s = "a"', ("b",)), ('s = "a"', ("a", "a")), ('s = "a"\ns = s s', ("a", "b"))):
            grammar = parse_grammar("start s\n" + rows)
            self.same(grammar_trees(grammar, words), ())
            self.same(count_trees(grammar, words), 0)

    def test_errors_in_the_listed_order(self):
        other = (parse_grammar("start s\ns = s"), parse_grammar('start s\ns = "a"\ns = "a" s'),
                 parse_grammar("start s\ns = s s s"))
        for call in (grammar_trees, count_trees):
            for grammar in other + (DOUBLE,):
                for words in ((), ["a"], None, "a"):
                    self.refuses(FitError, call, grammar, words)
                for text in NOT_WORDS:
                    self.refuses(WordError, call, grammar, ("a",) * 6 + (text,), word=text)
                self.refuses(SizeError, call, grammar, ("a",) * 7)
            for grammar in other:
                for words in (("a",), ("b",), ("a",) * 6):
                    self.refuses(FitError, call, grammar, words)

    def test_words_of_trees(self):
        self.same(tree_words(("x", "a")), ("a",))
        tree = ("x", "b")
        for _ in range(19):
            tree = ("x", ("y", "a"), tree)
        self.same(tree_words(tree), ("a",) * 19 + ("b",))
        back = ("x", "b")
        for _ in range(19):
            back = ("x", back, ("y", "a"))
        self.same(tree_words(back), ("b",) + ("a",) * 19)
        self.same(tree_words(tree), words_of(tree))
