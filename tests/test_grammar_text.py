"""[74]: the texts of grammars."""

from tests.helper import Case
from tests.test_grammar import NAMES, NOT_ITEMS, NOT_NAMES, RULES, many_rules
from wordfractions.errors import GrammarError, SizeError
from wordfractions.grammars.grammar import Grammar
from wordfractions.grammars.text import format_grammar, parse_grammar


class FormatTest(Case):

    def test_texts(self):
        self.same(format_grammar(Grammar("s", ())), "start s")
        self.same(format_grammar(Grammar("s", RULES)),
                  'start s\ns = np vp\nnp = "mary"\nvp = "sees" np\nnp = det "cat" pp "mary"')

    def test_reads_back(self):
        for g in (Grammar("start", ()), Grammar("s", RULES), Grammar("a", many_rules(120)),
                  Grammar("start", (("start", ("start", '"start"')), ("a", ('"abcdefghijkl"',))))):
            self.assertTrue(parse_grammar(format_grammar(g)) == g)


class ParseTest(Case):

    def bad(self, row, *rows):
        self.refuses(GrammarError, parse_grammar, "\n".join(rows), row=row)

    def reads(self, start, rules, *rows):
        g = parse_grammar("\n".join(rows))
        self.assertIs(type(g), Grammar)
        self.same((g.start, g.rules), (start, rules))

    def test_interface_grammar(self):
        self.reads("s", (("s", ("np", '"sees"', "np")), ("np", ("k1",)), ("k1", ('"mary"',))),
                   "start s", 's = np "sees" np', "np = k1", 'k1 = "mary"')

    def test_blanks(self):
        self.reads("s", (("s", ("a", '"b"')),), "   start    s  ", '  s   =  a    "b"   ')

    def test_rows_that_do_not_count(self):
        self.reads("s", (("s", ("a",)),), "", "  ", "# start t", "#", "start s", "", "#s = b", "s = a", "", "")
        self.bad(2, "start s", " # s = a")
        self.bad(1, "\t", "start s")
        self.bad(2, "start s", "\t")
        self.bad(2, "start s", "s\t= a")

    def test_no_row_that_counts(self):
        self.bad(2, "")
        self.bad(3, "", "")
        self.bad(4, "# start s", "  ", "#")

    def test_first_rows(self):
        for row in ("start", "start s t", "s", "Start s", "start = s", "s = a", "start S", 'start "s"', "starts",
                    "start s =", "start start start"):
            self.bad(1, row)
            self.bad(3, "", "#", row, "start s")
        for name in NAMES:
            self.reads(name, (), f"start {name}")
        for name in NOT_NAMES:
            if name.strip() == name and name != "a b":
                self.bad(1, f"start {name}")

    def test_start_as_a_head(self):
        self.reads("s", (("start", ("s",)), ("start", ("start", "start"))), "start s", "start = s",
                   "start = start start")
        self.bad(2, "start s", "start s")
        self.bad(1, "start = s", "start s")
        self.bad(3, "start s", "start = s", "start s")

    def test_bad_rows(self):
        for row in ("s", "s =", "= a", "s a", "s a =", "s == a", "s= a", "s =a", "s=a", "s = a b c d e", "S = a", '"s" = a',
                    "s t = a", "s = A", "s = a = b", "s = =", 's = "a', 's = "a b"', 's = ""', "s = a, b", "s = a;",
                    "s = abcdefg", "abcdefg = a", 's = "abcdefghijklm"', "s := a"):
            self.bad(2, "start s", row)
            self.bad(4, "start s", "", "a = b", row, "s = a")
        for item in NOT_ITEMS:
            if item.split(" ") == [item] and item != "":
                self.bad(2, "start s", f"s = a {item}")

    def test_equal_rules(self):
        self.bad(4, "start s", "s = a", "s = b", "s   =  a")
        self.bad(3, "start s", 's = "a"', 's = "a"')
        self.reads("s", (("s", ("a",)), ("s", ('"a"',)), ("s", ("a", "a"))), "start s", "s = a", 's = "a"', "s = a a")

    def test_size(self):
        names = [f"n{k} = s" for k in range(12)]
        self.same(len(parse_grammar("\n".join(["start s"] + names[:11])).names), 12)
        self.refuses(SizeError, parse_grammar, "\n".join(["start s"] + names))
        rows = ["start a"] + [f"{head} = {' '.join(body)}" for head, body in many_rules(121)]
        self.same(len(parse_grammar("\n".join(rows[:121])).rules), 120)
        self.refuses(SizeError, parse_grammar, "\n".join(rows))

    def test_grammar_error_comes_first(self):
        rows = ["start a"] + [f"{head} = {' '.join(body)}" for head, body in many_rules(121)]
        self.bad(123, *rows, "?")
        self.bad(124, *rows, "", rows[1])
        names = [f"n{k} = s" for k in range(13)]
        self.bad(15, "start s", *names, "s = S")
