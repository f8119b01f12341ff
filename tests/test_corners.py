"""[77], [78], [79]: corner rules, which of them are kept, and their rows."""

import random
import time

from tests.helper import Case
from tests.rulebook import (
    corners_of_symbols, kept_by_rounds, phrases, rows_that_fit, trees_of, two_part_by_chance, words_of,
)
from tests.test_dictionary import NOT_WORDS
from wordfractions.errors import FitError, SizeError, WordError
from wordfractions.grammars.corners import corner_rules, corners_to_tree, count_corner_trees, tree_to_corners
from wordfractions.grammars.forest import count_trees
from wordfractions.grammars.grammar import Grammar
from wordfractions.grammars.text import parse_grammar

DOUBLE = parse_grammar('start x\nx = "a"\nx = x x')
SENTENCE = parse_grammar('start s\ns = np vp\nnp = "mary"\nvp = "sleeps"')
TREE = ("s", ("np", "mary"), ("vp", "sleeps"))
WORDS = ("a", "b")
NOT_TWO_PART = (parse_grammar("start s\ns = s"), parse_grammar('start s\ns = "a"\ns = "a" s'))


def made_of(pairs, counts):
    """A grammar with these rules of two names, and so many words for each of the names x, y, z."""
    rules = [(head, tuple(body)) for head, *body in pairs]
    rules += [(name, (f'"{name}{chr(97 + k)}"',)) for name, many in zip("xyz", counts) for k in range(many)]
    return Grammar("x", tuple(rules))


THOUSAND = made_of(("zxx", "xyz", "xxz", "xzy", "zzy", "zxz", "zyz", "yyz"), (9, 11, 12))
ONE_MORE = made_of(("xzx", "yyx", "yxz", "yyy", "xyx", "xyz", "yxx", "zyy"), (11, 11, 0))


def grammars_by_chance(seed, many):
    rng = random.Random(seed)
    for _ in range(many):
        yield two_part_by_chance(rng, ("s", "t", "u", "v")[:rng.randint(1, 4)], WORDS, rng.randint(1, 10))


class CornerRulesTest(Case):

    def test_one_name(self):
        r, s = ("x", ("x", "x")), ("x", ('"a"',))
        self.same(corner_rules(DOUBLE), (
            ("x", "a", (), (s,)),
            ("x", "a", (("x", "x"),), (s,)),
            (("x", "x"), "a", (), (r, s, True)),
            (("x", "x"), "a", (("x", "x"),), (r, s, False)),
            (("x", "x"), "a", (("x", "x"),), (r, s, True)),
            (("x", "x"), "a", (("x", "x"), ("x", "x")), (r, s, False)),
        ))

    def test_the_label_alone_tells_two_apart(self):
        grammar = parse_grammar('start x\nx = y x\nx = "a"\ny = "b"')
        r, s = grammar.rules[:2]
        corners = corner_rules(parse_grammar('start x\nx = y x\nx = x y\nx = "a"\ny = "b"'))
        ends = (("y", "x"), "a", (("x", "x"),), (r, s, True))
        goes_on = (("y", "x"), "a", (("x", "x"),), (r, s, False))
        self.assertIn(ends, corners)
        self.assertIn(goes_on, corners)
        self.assertTrue(all(corner[3][2] in (True, False) for corner in corners if len(corner[3]) == 3))
        self.assertTrue(all(type(corner[3][2]) is bool for corner in corners if len(corner[3]) == 3))

    def test_a_sentence(self):
        np, vp = ("np", ('"mary"',)), ("vp", ('"sleeps"',))
        self.same(corner_rules(SENTENCE), (
            ("s", "mary", (("np", "s"),), (np,)),
            (("np", "s"), "sleeps", (), (("s", ("np", "vp")), vp, True)),
        ))

    def test_against_the_rows_of_77_and_78(self):
        met = 0
        for grammar in grammars_by_chance(1, 300):
            wanted = kept_by_rounds(grammar)
            if len(wanted) <= 1000:
                self.same(corner_rules(grammar), wanted)
                met += len(wanted) > 5
        self.assertGreater(met, 100)

    def test_symbols_that_are_not_productive_or_not_reached(self):
        for rows in ('s = t s\nt = "a"', 's = t u\nt = "a"', 's = t u\nt = "a"\nu = u u', 's = s s', "",
                     'u = "a"\nu = u u', 't = "b"', 's = s s\nt = "a"'):
            self.same(corner_rules(parse_grammar("start s\n" + rows)), ())
        grammar = parse_grammar('start s\ns = t u\nt = "a"\nu = "b"\nu = v u\nv = w w\nw = "c"\nx = "d"\nx = x x')
        corners = corner_rules(grammar)
        self.same(corners, kept_by_rounds(grammar))
        self.assertEqual({corner[1] for corner in corners}, {"a", "b", "c"})
        self.same({corner[0] for corner in corners if isinstance(corner[0], str)}, {"s"})
        self.assertLess(len(corners), sum(len(rows) for rows in corners_of_symbols(grammar).values()))

    def test_the_order_of_symbols(self):
        grammar = parse_grammar('start b\nb = b a\nb = a b\na = a a\na = "x"\nb = "y"\nc = "z"')
        symbols = [corner[0] for corner in corner_rules(grammar)]
        order = list(dict.fromkeys(symbols))
        self.same(grammar.names, ("b", "a", "c"))
        self.same(order, ["b", ("b", "b"), ("a", "b"), ("a", "a")])
        self.same(symbols, sorted(symbols, key=order.index))

    def test_a_thousand_and_one_more(self):
        self.same(len(kept_by_rounds(THOUSAND)), 1000)
        self.same(corner_rules(THOUSAND), kept_by_rounds(THOUSAND))
        self.same(len(kept_by_rounds(ONE_MORE)), 1001)
        self.refuses(SizeError, corner_rules, ONE_MORE)
        self.refuses(SizeError, count_corner_trees, ONE_MORE, ("xa",))
        self.same(count_corner_trees(THOUSAND, ("xa",)), 1)

    def test_large_grammars(self):
        begun = time.perf_counter()
        rng = random.Random(2)
        names = [f"n{k}" for k in range(12)]
        for _ in range(10):
            grammar = two_part_by_chance(rng, names, [a + b for a in "abcde" for b in "abcde"], 119)
            wanted = kept_by_rounds(grammar)
            if len(wanted) > 1000:
                self.refuses(SizeError, corner_rules, grammar)
            else:
                self.same(corner_rules(grammar), wanted)
        self.assertLess(time.perf_counter() - begun, 20)


class RowsTest(Case):

    def test_interface_example(self):
        self.same(tree_to_corners(SENTENCE, TREE)[1],
                  (("np", "s"), "sleeps", (), (("s", ("np", "vp")), ("vp", ('"sleeps"',)), True)))

    def test_a_lone_word(self):
        self.same(tree_to_corners(DOUBLE, ("x", "a")), (("x", "a", (), (("x", ('"a"',)),)),))
        self.same(corners_to_tree(DOUBLE, (("x", "a", (), (("x", ('"a"',)),)),)), ("x", "a"))

    def test_three_words(self):
        r, s = ("x", ("x", "x")), ("x", ('"a"',))
        x = ("x", "a")
        self.same(tree_to_corners(DOUBLE, ("x", ("x", x, x), x)), (
            ("x", "a", (("x", "x"),), (s,)),
            (("x", "x"), "a", (("x", "x"),), (r, s, False)),
            (("x", "x"), "a", (), (r, s, True)),
        ))
        self.same(tree_to_corners(DOUBLE, ("x", x, ("x", x, x))), (
            ("x", "a", (("x", "x"),), (s,)),
            (("x", "x"), "a", (("x", "x"),), (r, s, True)),
            (("x", "x"), "a", (), (r, s, True)),
        ))

    def test_rows_are_just_those_of_the_trees(self):
        """A walk over the kept corner rules finds the rows of all trees, each once, and no others."""
        met = 0
        for grammar in grammars_by_chance(3, 120):
            corners = kept_by_rounds(grammar)
            if len(corners) > 150:
                continue
            rows = rows_that_fit(grammar, corners, 4)
            if len(rows) > 3000:
                continue
            trees = [tree for words in phrases(WORDS, 4) for tree in trees_of(grammar, grammar.start, words)]
            self.assertEqual(len(set(rows)), len(rows))
            self.assertEqual(len(rows), len(trees))
            made = {}
            for tree in trees:
                row = tree_to_corners(grammar, tree)
                self.same(tuple(corner[1] for corner in row), words_of(tree))
                self.same(corners_to_tree(grammar, row), tree)
                made[row] = tree
            self.assertEqual(set(made), set(rows))
            for words in phrases(WORDS, 4):
                self.same(count_corner_trees(grammar, words),
                          sum(tuple(corner[1] for corner in row) == words for row in rows))
            met += len(rows)
        self.assertGreater(met, 500)

    def test_counts_of_long_phrases(self):
        for grammar in grammars_by_chance(4, 60):
            if len(kept_by_rounds(grammar)) <= 1000:
                for words in (("a",) * 6, ("b",) * 5, ("a", "b") * 3, ("b", "a", "a", "b", "b"), ("c",), ("a", "c")):
                    self.same(count_corner_trees(grammar, words), count_trees(grammar, words))
        self.same(count_corner_trees(DOUBLE, ("a",) * 6), 42)

    def test_twenty_words(self):
        x = ("x", "a")
        left = right = zigzag = x
        for k in range(19):
            left, right = ("x", left, x), ("x", x, right)
            zigzag = ("x", zigzag, x) if k % 2 else ("x", x, zigzag)
        for tree in (left, right, zigzag):
            row = tree_to_corners(DOUBLE, tree)
            self.same(len(row), 20)
            self.same(corners_to_tree(DOUBLE, row), tree)

    def test_no_size_error_there_and_back(self):
        x = ("y", "ya")
        tree = ("x", ("y", ("x", "xa"), ("x", "xb")), ("x", "xa"))
        row = tree_to_corners(ONE_MORE, tree)
        self.same(corners_to_tree(ONE_MORE, row), tree)
        self.refuses(FitError, tree_to_corners, ONE_MORE, x)

    def test_trees_that_are_none_of_the_grammar(self):
        for tree in (("np", "mary"), ("s", "mary"), ("s", ("np", "mary"), ("vp", "mary")), ("s", ("np", "ann"), ("vp", "sleeps")),
                     ("s", ("vp", "sleeps"), ("np", "mary")), ("s", ("np", "mary"), ("np", "mary")), ("np", TREE[1], TREE[2]),
                     ("s", TREE, ("vp", "sleeps")), ("s", ("np", "mary"), TREE), ("x", "a"), ("vp", "sleeps"),
                     ("s", ("np", '"mary"'), ("vp", "sleeps"))):
            self.refuses(FitError, tree_to_corners, SENTENCE, tree)
        self.same(len(tree_to_corners(SENTENCE, TREE)), 2)

    def test_rows_that_are_those_of_no_tree(self):
        row = tree_to_corners(DOUBLE, ("x", ("x", ("x", "a"), ("x", "a")), ("x", ("x", "a"), ("x", "a"))))
        self.same(len(row), 4)
        bad = [(), row + row[-1:], row + row, row[1:], row[::-1], row[:1] * 2]
        bad.extend(row[:many] for many in range(1, 4))
        bad.extend(row[:place] + row[place + 1:] for place in range(4))
        for place, (symbol, word, rests, label) in enumerate(row):
            for changed in (("y", word, rests, label), (("x", "y"), word, rests, label), (symbol, "b", rests, label),
                            (symbol, word, rests + (("x", "x"),), label), (symbol, word, (("y", "x"),), label),
                            (symbol, word, rests, label[:1]), (symbol, word, rests, (label[0], label[0], True)),
                            (symbol, word, rests, (label[0], label[0], False)),
                            (symbol, word, rests, (("x", ('"b"',)),) + label[1:]),
                            (symbol, word, rests, label[:-1] + (not label[-1],)) if len(label) == 3 else ("y",) + row[0][1:]):
                if changed != row[place]:
                    bad.append(row[:place] + (changed,) + row[place + 1:])
        good = set(rows_that_fit(DOUBLE, kept_by_rounds(DOUBLE), 8))
        refused = [wrong for wrong in bad if wrong not in good]
        self.assertGreater(len(refused), 35)
        for wrong in refused:
            self.refuses(FitError, corners_to_tree, DOUBLE, wrong)

    def test_rows_changed_by_chance(self):
        """A row is read exactly if it is that of a tree: never anything else comes out."""
        rng = random.Random(5)
        for grammar in grammars_by_chance(6, 60):
            corners = kept_by_rounds(grammar)
            if not 0 < len(corners) <= 200:
                continue
            good = set(rows_that_fit(grammar, corners, 3)[:2000])
            others = [corner for rows in corners_of_symbols(grammar).values() for corner in rows]
            for _ in range(60):
                row = tuple(rng.choice(rng.choice((corners, others))) for _ in range(rng.randint(1, 3)))
                if row in good:
                    self.same(tree_to_corners(grammar, corners_to_tree(grammar, row)), row)
                elif len(good) < 2000:
                    self.refuses(FitError, corners_to_tree, grammar, row)

    def test_rows_of_corner_rules_that_are_not_kept(self):
        """Rows of other symbols than the start, and of rules that lead nowhere."""
        grammar = parse_grammar('start s\ns = t t\nt = "a"\nt = t t\nt = u v\nu = "b"')
        self.refuses(FitError, corners_to_tree, grammar, (("t", "a", (), (("t", ('"a"',)),)),))
        self.refuses(FitError, corners_to_tree, grammar, (("s", "b", (("u", "s"),), (("u", ('"b"',)),)),))

    def test_grammars_that_are_not_two_part(self):
        for grammar in NOT_TWO_PART:
            self.refuses(FitError, corner_rules, grammar)
            self.refuses(FitError, tree_to_corners, grammar, ("s", "a"))
            self.refuses(FitError, corners_to_tree, grammar, ())
            self.refuses(FitError, corners_to_tree, grammar, (("s", "a", (), (("s", ('"a"',)),)),))
            self.refuses(FitError, count_corner_trees, grammar, ("a",))

    def test_errors_of_counting_in_the_listed_order(self):
        for grammar in NOT_TWO_PART + (ONE_MORE, DOUBLE):
            for words in ((), ["a"], None, "a"):
                self.refuses(FitError, count_corner_trees, grammar, words)
            for text in NOT_WORDS:
                self.refuses(WordError, count_corner_trees, grammar, ("a",) * 6 + (text,), word=text)
            self.refuses(SizeError, count_corner_trees, grammar, ("a",) * 7)
