"""[72], [75]: grammars."""

from tests.helper import Case
from wordfractions.errors import FitError, SizeError
from wordfractions.grammars.grammar import Grammar

RULES = (("s", ("np", "vp")), ("np", ('"mary"',)), ("vp", ('"sees"', "np")), ("np", ("det", '"cat"', "pp", '"mary"')))
NAMES = ("a", "z", "a1", "abcdef", "a23456", "start", "k1")
NOT_NAMES = ("", "A", "1", "1a", "abcdefg", "a b", " a", "a ", "a.1", "a_b", '"a"', "a\n", "\u00e9", '"')
NOT_ITEMS = ("", "A", "abcdefg", '"', '""', '"Cat"', '"cat', 'cat"', '"cat1"', '"the cat"', '" cat"', "'cat'",
             '"abcdefghijklm"', '"cat""', '""cat"', '"c"t"')


def many_rules(many):
    """So many rules over five names."""
    names = "abcde"
    rules = [(x, (y, z)) for x in names for y in names for z in names]
    return tuple(rules[:many])


class GrammarTest(Case):

    def test_properties(self):
        g = Grammar("s", RULES)
        self.same(g.start, "s")
        self.same(g.rules, RULES)
        self.same(g.names, ("s", "np", "vp", "det", "pp"))
        self.same(g.words, ("mary", "sees", "cat"))
        self.assertIs(g.two_part, False)

    def test_no_rules(self):
        g = Grammar("start", ())
        self.same((g.start, g.rules, g.names, g.words, g.two_part), ("start", (), ("start",), (), True))

    def test_names_in_the_order_in_which_they_first_stand(self):
        self.same(Grammar("b", (("c", ("a", '"d"', "b")), ("a", ("e", "c")))).names, ("b", "c", "a", "e"))
        self.same(Grammar("z", (("y", ('"z"',)), ("x", ("y",)))).names, ("z", "y", "x"))

    def test_words_in_the_order_in_which_they_first_stand(self):
        self.same(Grammar("s", (("s", ('"b"', "s", '"a"')), ("s", ('"c"',)), ("s", ('"a"', '"b"')))).words,
                  ("b", "a", "c"))

    def test_two_part(self):
        for body, two_part in ((('"a"',), True), (("a", "b"), True), (("a",), False), (('"a"', "b"), False),
                               (("a", '"b"'), False), (('"a"', '"b"'), False), (("a", "b", "c"), False),
                               (("a", "b", "c", "d"), False)):
            self.assertIs(Grammar("s", (("s", body),)).two_part, two_part)
            self.assertIs(Grammar("s", (("s", ("s", "s")), ("s", body), ("s", ('"b"',)))).two_part, two_part)

    def test_names(self):
        for name in NAMES:
            self.same(Grammar(name, ((name, (name, name)),)).names, (name,))
        for name in NOT_NAMES:
            self.refuses(FitError, Grammar, name, ())
            self.refuses(FitError, Grammar, "s", ((name, ("a",)),))

    def test_items(self):
        for item in NAMES + ('"a"', '"sees"', '"abcdefghijkl"'):
            self.same(Grammar("s", (("s", (item,)),)).rules, (("s", (item,)),))
        for item in NOT_ITEMS:
            self.refuses(FitError, Grammar, "s", (("s", (item,)),))
            self.refuses(FitError, Grammar, "s", (("s", ("a", "b", "c", item)),))

    def test_bodies(self):
        for many in (1, 2, 3, 4):
            Grammar("s", (("s", ("a",) * many),))
        for many in (0, 5, 6):
            self.refuses(FitError, Grammar, "s", (("s", ("a",) * many),))

    def test_equal_rules(self):
        self.refuses(FitError, Grammar, "s", RULES + RULES[1:2])
        self.refuses(FitError, Grammar, "s", (("s", ("a",)), ("s", ("a",))))
        Grammar("s", (("s", ("a", "b")), ("s", ("b", "a")), ("a", ("a", "b"))))
        Grammar("s", (("s", ("a",)), ("s", ('"a"',))))

    def test_twelve_names_and_one_more(self):
        names = tuple(f"n{k}" for k in range(13))
        self.same(len(Grammar("n0", tuple((name, ("n0",)) for name in names[:12])).names), 12)
        self.refuses(SizeError, Grammar, "n0", tuple((name, ("n0",)) for name in names))
        self.refuses(SizeError, Grammar, "s", tuple((name, ("n0",)) for name in names[:12]))
        self.refuses(SizeError, Grammar, "n0", tuple(("n0", ("n0", name)) for name in names))
        Grammar("n0", tuple(("n0", ('"cat"', name)) for name in names[:12]))

    def test_rules_and_one_more(self):
        self.same(len(Grammar("a", many_rules(120)).rules), 120)
        self.refuses(SizeError, Grammar, "a", many_rules(121))

    def test_fit_errors_come_first(self):
        large = many_rules(121)
        self.refuses(FitError, Grammar, "A", large)
        for rule in (("A", ("a",)), ("a", ()), ("a", ("a",) * 5), ("a", ("A",)), ("a", ("a", '"A"')), large[0]):
            self.refuses(FitError, Grammar, "a", large + (rule,))
        wide = tuple((f"n{k}", ("s",)) for k in range(13))
        self.refuses(SizeError, Grammar, "s", wide)
        self.refuses(FitError, Grammar, "s", wide + wide[:1])
        self.refuses(FitError, Grammar, "s", wide + (("s", ("s", "S")),))

    def test_equality(self):
        g = Grammar("s", RULES)
        self.assertIs(g == Grammar("s", RULES), True)
        self.assertIs(g != Grammar("s", RULES), False)
        self.assertIs(g == Grammar("np", RULES), False)
        self.assertIs(g == Grammar("s", RULES[:3]), False)
        self.assertIs(g == Grammar("s", RULES[::-1]), False)
        for thing in (None, True, "s", RULES, ("s", RULES), [], {}):
            self.assertIs(g == thing, False)
            self.assertIs(g != thing, True)

    def test_nothing_can_be_set(self):
        for name in ("start", "rules", "names", "words", "two_part"):
            self.assertIn(name, vars(Grammar))
            with self.assertRaises(AttributeError):
                setattr(Grammar("s", ()), name, "s")
        self.assertIn("__eq__", vars(Grammar))
