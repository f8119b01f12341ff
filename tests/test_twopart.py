"""[72], [73], [75]: two-part forms, and what a grammar reads."""

import random
import time

from tests.helper import Case
from tests.rulebook import form_by_hand, grammar_by_chance, phrases, reads, two_part_by_chance
from tests.test_dictionary import NOT_WORDS
from wordfractions.errors import FitError, SizeError, WordError
from wordfractions.grammars.grammar import Grammar
from wordfractions.grammars.text import format_grammar, parse_grammar
from wordfractions.grammars.twopart import grammar_reads, two_part_form

WORDS = ("a", "b", "c")


def form_of(*rows):
    return format_grammar(two_part_form(parse_grammar("start s\n" + "\n".join(rows)))).split("\n")[1:]


class FormTest(Case):

    def test_interface_example(self):
        grammar = parse_grammar('start s\ns = np "sees" np\nnp = k1\nk1 = "mary"')
        self.same(format_grammar(two_part_form(grammar)),
                  'start s\ns = np k3\nk2 = "sees"\nk3 = k2 np\nnp = "mary"\nk1 = "mary"')

    def test_two_part_grammars_stay(self):
        rng = random.Random(1)
        for grammar in (Grammar("s", ()), Grammar("k1", (("k1", ("k2", "k3")), ("k2", ('"a"',)))),
                        *[two_part_by_chance(rng, ("s", "a", "k1"), WORDS, 8) for _ in range(20)]):
            self.assertTrue(two_part_form(grammar) == grammar)

    def test_bodies_of_one_item(self):
        self.same(form_of('s = "a"', 's = "b"'), ['s = "a"', 's = "b"'])
        self.same(form_of("s = x"), [])
        self.same(form_of("s = s"), [])
        self.same(form_of("s = x", 'x = "a"', "x = x s"), ['s = "a"', "s = x s", 'x = "a"', "x = x s"])

    def test_bodies_of_two_items(self):
        self.same(form_of("s = x y"), ["s = x y"])
        self.same(form_of('s = "a" y'), ["s = k1 y", 'k1 = "a"'])
        self.same(form_of('s = y "a"'), ["s = y k1", 'k1 = "a"'])
        self.same(form_of('s = "b" "a"'), ["s = k1 k2", 'k1 = "b"', 'k2 = "a"'])
        self.same(form_of('s = "a" "a"'), ["s = k1 k1", 'k1 = "a"'])

    def test_bodies_of_three_items(self):
        self.same(form_of("s = x y z"), ["s = x k1", "k1 = y z"])
        self.same(form_of('s = x "a" z'), ["s = x k2", 'k1 = "a"', "k2 = k1 z"])
        self.same(form_of('s = "c" "b" "a"'), ["s = k1 k4", 'k1 = "c"', 'k2 = "b"', 'k3 = "a"', "k4 = k2 k3"])
        self.same(form_of('s = "a" x "a"'), ["s = k1 k2", 'k1 = "a"', "k2 = x k1"])

    def test_bodies_of_four_items(self):
        self.same(form_of("s = x y z w"), ["s = x k1", "k1 = y k2", "k2 = z w"])
        self.same(form_of('s = "a" y "b" w'), ["s = k1 k3", 'k1 = "a"', 'k2 = "b"', "k3 = y k4", "k4 = k2 w"])
        self.same(form_of('s = "a" "b" "a" "b"'), ["s = k1 k3", 'k1 = "a"', 'k2 = "b"', "k3 = k2 k4", "k4 = k1 k2"])

    def test_a_word_has_one_new_name(self):
        self.same(form_of('s = "a" x "b"', 'x = "b" "a"', 'x = "a" "c"', 'x = "a"'),
                  ["s = k1 k3", 'k1 = "a"', 'k2 = "b"', "k3 = x k2", "x = k2 k1", "x = k1 k4", 'k4 = "c"', 'x = "a"'])
        self.same(form_of('x = "a"', 's = "a" x'), ['x = "a"', "s = k1 x", 'k1 = "a"'])

    def test_chains_are_made_anew(self):
        """Equal ends of bodies have names of their own."""
        self.same(form_of("s = x y z", "s = y y z"), ["s = x k1", "k1 = y z", "s = y k2", "k2 = y z"])

    def test_new_names_beside_names_like_them(self):
        self.same(form_of('s = k1 "a" k3', 'k3 = "a"'), ["s = k1 k4", 'k2 = "a"', "k4 = k2 k3", 'k3 = "a"'])
        self.same(form_of('s = "a" s s', 's = k2 s', 'k2 = k01'), ["s = k1 k3", 'k1 = "a"', "k3 = s s", "s = k2 s"])
        self.same(form_of('s = "a" k', 'k = k0 "b"'), ["s = k1 k", 'k1 = "a"', "k = k0 k2", 'k2 = "b"'])
        self.same(format_grammar(two_part_form(parse_grammar('start k1\nk2 = "a" "b"'))),
                  'start k1\nk2 = k3 k4\nk3 = "a"\nk4 = "b"')

    def test_rings(self):
        self.same(form_of("s = x", "x = y", "y = s", 'y = "a"', "s = x y", 'x = "b"'),
                  ['s = "a"', "s = x y", 's = "b"', 'x = "a"', "x = x y", 'x = "b"', 'y = "a"', "y = x y", 'y = "b"'])
        self.same(form_of("s = s", 's = "a"'), ['s = "a"'])
        self.same(form_of("s = x", "x = s"), [])

    def test_a_rule_that_comes_twice_is_taken_once(self):
        self.same(form_of("s = x", "s = y", 'y = "a"', 'x = "a"', 's = "a"', 's = "b"'),
                  ['s = "a"', 'y = "a"', 'x = "a"', 's = "b"'])
        self.same(form_of("s = x", "x = y", "s = y", 'y = "a"'), ['s = "a"', 'x = "a"', 'y = "a"'])

    def test_the_order_is_that_of_the_list(self):
        """The rules in the place of a single name are taken in the order of L, new ones among them."""
        self.same(form_of('z = "c"', "s = x", 'x = "a" y z', "y = z", 'x = "b"', "x = y"),
                  ['z = "c"', 's = "c"', "s = k1 k2", 's = "b"', "x = k1 k2", 'k1 = "a"', "k2 = y z", 'y = "c"', 'x = "b"',
                   'x = "c"'])

    def test_against_the_rows_of_75(self):
        rng = random.Random(2)
        refused = 0
        for _ in range(400):
            names = rng.choice((("s", "k1"), ("s", "x", "k2"), ("s", "x", "y", "k1", "k3"), tuple("stuvwxyz")))
            grammar = grammar_by_chance(rng, names, WORDS[:rng.randint(1, 3)], rng.randint(1, 9))
            wanted = form_by_hand(grammar)
            used = {grammar.start} | {name for head, body in wanted for name in (head, *body) if name[0] != '"'}
            if len(used) > 12 or len(wanted) > 120:
                refused += 1
                self.refuses(SizeError, two_part_form, grammar)
                continue
            form = two_part_form(grammar)
            self.same(form.rules, wanted)
            self.same(form.start, grammar.start)
            self.assertIs(form.two_part, True)
            self.assertTrue(two_part_form(form) == form)
            for words in phrases(WORDS, 3):
                self.assertIs(reads(form, words), reads(grammar, words))
        self.assertGreater(refused, 5)

    def test_twelve_names_and_one_more(self):
        for many, fits in ((11, True), (12, False)):
            rules = tuple((f"n{k}", (f"n{k - 1}", f"n{k - 2}")) for k in range(2, many)) + (("n0", ('"a"', "n1")),)
            grammar = Grammar("n0", rules)
            self.same(len(grammar.names), many)
            if fits:
                self.same(len(two_part_form(grammar).names), 12)
            else:
                self.refuses(SizeError, two_part_form, grammar)
        # Names that only rules with single names have are not in the form.
        rules = tuple((f"n{k}", (f"n{k + 1}",)) for k in range(11)) + (("n0", ('"a"', "n0", '"b"')),)
        self.same(two_part_form(Grammar("n0", rules)).rules[-4:],
                  (("n0", ("k1", "k3")), ("k1", ('"a"',)), ("k2", ('"b"',)), ("k3", ("n0", "k2"))))
        self.same(len(Grammar("n0", rules).names), 12)

    def test_rules_of_the_form_and_one_more(self):
        def grammar(many):
            """x derives so many words; s, t and u have what x has."""
            letters = "abcdefghijklmnopqrstuvwxyz"
            rules = tuple(("x", (f'"{a}{b}"',)) for a in letters for b in letters)[:many]
            return rules + (("s", ("x",)), ("t", ("x",)), ("u", ("t",)))
        self.same(len(two_part_form(Grammar("s", grammar(30))).rules), 120)
        self.refuses(SizeError, two_part_form, Grammar("s", grammar(31)))
        self.same(len(two_part_form(Grammar("s", grammar(29) + (("s", ("s", "s")),) * 1)).rules), 117)
        more = grammar(29) + (("v", ("s", "s")), ("v", ("s", "t")), ("v", ("s", "u")), ("v", ("t", "t")))
        self.same(len(two_part_form(Grammar("s", more)).rules), 120)
        self.refuses(SizeError, two_part_form, Grammar("s", more + (("v", ("u", "u")),)))

    def test_a_long_list_with_a_short_form(self):
        """L may have more than 120 rules."""
        names = [f"n{k}" for k in range(9)]
        rules = [(a, (b,)) for a in names for b in names] + [("n0", ("n0", "n0", "n0"))]
        rules += [("n0", (f'"{a}{b}"',)) for a in "abc" for b in "ab"]
        form = two_part_form(Grammar("n0", tuple(rules)))
        self.same(len(form.rules), 9 * 7 + 1)
        names = [f"n{k}" for k in range(11)]
        rules = [(a, (b,)) for a in names for b in names][:119] + [("n0", ("n0", "n0", "n0"))]
        form = two_part_form(Grammar("n0", tuple(rules)))
        self.same(set(body for _, body in form.rules), {("n0", "k1"), ("n0", "n0")})

    def test_arguments_stay(self):
        grammar = parse_grammar('start s\ns = np "sees" np\nnp = k1\nk1 = "mary"')
        rules = grammar.rules
        two_part_form(grammar)
        self.same((grammar.start, grammar.rules), ("s", rules))
        self.assertIs(grammar.two_part, False)


class ReadsTest(Case):

    def judge(self, grammar, most):
        for words in phrases(WORDS[:2], most):
            self.assertIs(grammar_reads(grammar, words), reads(grammar, words))

    def test_grammars_by_chance(self):
        rng = random.Random(3)
        for _ in range(80):
            grammar = grammar_by_chance(rng, ("s", "x", "k1"), WORDS[:2], rng.randint(1, 9))
            self.judge(grammar, 4)
        for _ in range(60):
            grammar = grammar_by_chance(rng, ("s", "x"), WORDS[:2], rng.randint(1, 7), lengths=(1, 2, 3, 4, 4))
            self.judge(grammar, 5)

    def test_six_words(self):
        for rows in ("s = s s\ns = \"a\"", 's = "a" s "b"\ns = "a" "b"', 's = "a" s "b" s\ns = x\nx = "b"\nx = s s s',
                     's = "a" "b" s s\ns = "a"\ns = "b"'):
            self.judge(parse_grammar("start s\n" + rows), 6)

    def test_names_without_rules_and_rings(self):
        for rows, words in (("", ("a",)), ("s = x", ("a",)), ("s = x\nx = s", ("a",)), ("s = s", ("a", "a")),
                            ('x = "a"', ("a",)), ('s = "a" x', ("a", "a"))):
            self.assertIs(grammar_reads(parse_grammar("start s\n" + rows), words), False)
        ring = parse_grammar('start s\ns = x\nx = y\ny = s\ny = "a"\nx = "b" s')
        for words, wanted in ((("a",), True), (("b", "a"), True), (("b", "b", "a"), True), (("b",), False),
                              (("a", "b"), False), (("c",), False)):
            self.assertIs(grammar_reads(ring, words), wanted)

    def test_grammars_whose_form_is_refused(self):
        names = [f"n{k}" for k in range(12)]
        rules = tuple((a, (b,)) for a, b in zip(names, names[1:])) + (("n11", ('"a"', "n0", '"b"')), ("n11", ('"a"', '"b"')))
        grammar = Grammar("n0", rules)
        self.refuses(SizeError, two_part_form, grammar)
        self.judge(grammar, 6)
        self.assertIs(grammar_reads(grammar, ("a", "a", "b", "b")), True)
        many = tuple((a, (b,)) for a in names[:9] for b in names[:9]) + tuple(
            ("n5", (f'"a{letter}"', '"a"')) for letter in "abcdefghijklmnopqrst")
        self.refuses(SizeError, two_part_form, Grammar("n0", many))
        self.assertIs(grammar_reads(Grammar("n0", many), ("aa", "a")), True)
        self.assertIs(grammar_reads(Grammar("n0", many), ("a", "aa")), False)

    def test_errors_of_check_phrase(self):
        grammars = (Grammar("s", ()), Grammar("s", (("s", ('"a"',)),)),
                    Grammar("s", tuple(("s", (f'"a{x}"', f'"b{x}"', "s")) for x in "abcdefg")))
        for grammar in grammars:
            for words in ((), ["a"], None, "a", 0):
                self.refuses(FitError, grammar_reads, grammar, words)
            for text in NOT_WORDS:
                self.refuses(WordError, grammar_reads, grammar, ("a",) * 6 + (text,), word=text)
            self.refuses(SizeError, grammar_reads, grammar, ("a",) * 7)

    def test_large_grammars(self):
        begun = time.perf_counter()
        names = [f"n{k}" for k in range(12)]
        rng = random.Random(4)
        for lengths in ((1,), (1, 2), (4,), (1, 2, 3, 4)):
            grammar = grammar_by_chance(rng, names, WORDS, 119, lengths)
            for words in (("a",) * 6, ("a", "b", "c", "a", "b", "c")):
                self.assertIs(grammar_reads(grammar, words), reads(grammar, words))
        self.assertLess(time.perf_counter() - begun, 30)
