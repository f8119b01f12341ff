"""[8], [9]: the texts of kinds, and the places of texts that are not good."""

import itertools
import re

from tests.helper import Case, bush, comb
from wordfractions.errors import KindError, SizeError
from wordfractions.kinds.order import kinds_up_to
from wordfractions.kinds.text import format_kind, parse_kind

VP = (">", "n", "s")
SHORTS = (("Vp", VP), ("N", "n.3"))

PLACES = (
    ("a / b / c", 6), ("a b", 2), ("a //b", 3), ("a)", 1), ("()", 1), ("(a / b", 6), ("(a / b) c", 8),
    ("n.0", 2), ("n.", 2), ("n.1234567", 8), ("abcdefghi", 8), ("A", 0), ("a /", 3), ("", 0),
)

# The number of a text's place, found by trying out what may stand behind it.
NAMES = re.compile(r"[a-z][a-z0-9]{0,7}(\.[1-9][0-9]{0,5})?")


def is_good(text, names):
    """Tell whether the text is good, in a way that has nothing of the reader's."""
    tokens = ""
    at = 0
    while at < len(text):
        found = NAMES.match(text, at)
        fitting = [name for name in names if text.startswith(name, at)]
        if text[at] == " ":
            end = at + 1
        elif found or fitting:
            end = found.end() if found else at + len(max(fitting, key=len))
            if text[end:end + 1].isalnum() or text[end:end + 1] == ".":
                return False
            tokens += "u"
        elif text[at] in "/>*()":
            end = at + 1
            tokens += "s" if text[at] in "/>*" else text[at]
        else:
            return False
        at = end
    while True:
        shorter = tokens.replace("(u)", "u").replace("(usu)", "u")
        if shorter == tokens:
            return tokens in ("u", "usu")
        tokens = shorter


def is_beginning(text, names):
    tails = [""] + [name[k:] for name in names for k in range(1, len(name))]
    return any(
        is_good(text + middle + ")" * many, names)
        for middle in tails + ["a", "1"]
        for many in range(text.count("(") + 1)
    )


def place_of(text, names):
    for place in range(len(text)):
        if not is_beginning(text[:place + 1], names):
            return place
    return len(text)


class FormatTest(Case):

    def test_texts(self):
        for kind, text in (("n", "n"), ("n.12", "n.12"), (VP, "n > s"), (("/", VP, "n"), "(n > s) / n"),
                           (("*", "a", ("*", "b", "c")), "a * (b * c)"), (("*", VP, VP), "(n > s) * (n > s)")):
            self.same(format_kind(kind), text)
            self.same(parse_kind(text), kind)

    def test_no_limit_of_length(self):
        kind = bush(40, "abcdefgh.999999")
        text = format_kind(kind)
        self.assertGreater(len(text), 400)
        self.assertEqual(text.count("abcdefgh.999999"), 40)
        self.refuses(SizeError, parse_kind, text)

    def test_unlike_kinds_have_unlike_texts_that_are_read_back(self):
        kinds = kinds_up_to(("a", "b"), 3)
        self.assertEqual(len({format_kind(kind) for kind in kinds}), len(kinds))
        for kind in kinds + (comb(40), comb(40, left=False), bush(40, "ab.1", ">")):
            self.same(parse_kind(format_kind(kind)), kind)


class ParseTest(Case):

    def bad(self, text, place, shorts=()):
        self.refuses(KindError, lambda: parse_kind(text, shorts=shorts), place=place)

    def test_interface_examples(self):
        self.same(parse_kind(" Vp/ (n) ", shorts=(("Vp", (">", "n", "s")),)), ("/", (">", "n", "s"), "n"))
        self.bad("a / b / c", 6)

    def test_table_of_places(self):
        for text, place in PLACES:
            self.bad(text, place)

    def test_blanks(self):
        for text in ("n>s", " n>s", "n >s", "n> s", "n>s ", "  n  >  s  ", "(n>s)", "( n>s)", "(n>s )", " ( n > s ) ",
                     "(n)>s", "n>(s)", "( n ) > ( s )", "((n)>((s)))"):
            self.same(parse_kind(text), VP)
        self.same(parse_kind("  n.12  "), "n.12")

    def test_blanks_where_none_may_stand(self):
        self.bad("n .1", 2)
        self.bad("n. 1", 2)
        self.bad("n.1 2", 4)
        self.bad("ab c", 3)
        self.bad("V p", 1, SHORTS)
        self.bad("   ", 3)

    def test_no_other_blanks(self):
        for sign in ("\n", "\t", "\r"):
            self.bad(f"n{sign}> s", 1)
            self.bad(f"{sign}n", 0)
            self.bad(f"n > s{sign}", 5)

    def test_needless_brackets(self):
        self.same(parse_kind("(n)"), "n")
        self.same(parse_kind("(((n > s)))"), VP)
        for many in (198, 199):
            self.same(parse_kind("(" * many + "n" + ")" * many), "n")
            self.bad("(" * many + "n" + ")" * (many - 1), 2 * many)
            self.bad("(" * many + "n" + ")" * (many + 1), 2 * many + 1)
            self.bad("(" * many, many)
            self.bad("(" * many + ")", many)

    def test_names(self):
        self.bad("n.", 2)
        self.bad("n.0", 2)
        self.bad("n.07", 2)
        self.same(parse_kind("n.1"), "n.1")
        self.same(parse_kind("n.999999"), "n.999999")
        self.bad("n.1000000", 8)
        self.bad("n.1.2", 3)
        self.bad("n.1a", 3)
        self.bad("n.a", 2)
        self.same(parse_kind("abcdefgh"), "abcdefgh")
        self.bad("a / abcdefghi / b", 12)
        self.bad("1", 0)
        self.bad("aB", 1)
        self.bad("a_", 1)

    def test_signs(self):
        for text, place in (("/", 0), ("/ a", 0), ("a /", 3), ("a / ", 4), ("a / / b", 4), ("a < b", 2), ("a = b", 2),
                            ("(a / b) / c", None), ("(a / b / c)", 7), ("a (b)", 2), ("(a)(b)", 3), ("(a) b", 4),
                            ("a / (b", 6), ("a / b)", 5), ("(a /)", 4), ("a , b", 2), ("#", 0)):
            if place is None:
                parse_kind(text)
            else:
                self.bad(text, place)

    def test_lengths(self):
        self.same(parse_kind("n" + " " * 399), "n")
        self.refuses(SizeError, parse_kind, "n" + " " * 400)
        self.refuses(SizeError, parse_kind, "?" * 401)
        self.bad("?" + " " * 399, 0)
        self.bad(" " * 400, 400)

    def test_too_many_atoms(self):
        self.refuses(SizeError, parse_kind, format_kind(comb(41)))
        self.refuses(SizeError, parse_kind, format_kind(bush(41)))
        text = format_kind(comb(41))
        self.bad(text + " / n", len(text) + 1)
        self.bad(text + "?", len(text))
        self.same(parse_kind("N / a", shorts=(("N", comb(39)),)), ("/", comb(39), "a"))
        self.refuses(SizeError, lambda: parse_kind("N / a", shorts=(("N", comb(40)),)))
        self.refuses(SizeError, lambda: parse_kind("((N*N)*(N*N))" * 1, shorts=(("N", comb(40)),)))

    def test_short_names(self):
        self.same(parse_kind("Vp", shorts=SHORTS), VP)
        self.same(parse_kind("N", shorts=SHORTS), "n.3")
        self.same(parse_kind("Vp/N", shorts=SHORTS), ("/", VP, "n.3"))
        self.same(parse_kind("((Vp) / (N))", shorts=SHORTS), ("/", VP, "n.3"))
        self.same(parse_kind("Vp > Vp", shorts=SHORTS), (">", VP, VP))
        self.bad("V", 1, SHORTS)
        self.bad("Vx", 1, SHORTS)
        self.bad("V / n", 1, SHORTS)
        self.bad("Vpx", 2, SHORTS)
        self.bad("Vp1", 2, SHORTS)
        self.bad("NN", 1, SHORTS)
        self.bad("Nn", 1, SHORTS)
        self.bad("aN", 1, SHORTS)
        self.bad("N.1", 1, SHORTS)
        self.bad("n / X", 4, SHORTS)
        self.bad("n / Vp", 4)

    def test_short_names_that_begin_others(self):
        names = (("V", "v"), ("Vp", "p"), ("Vpabc", "q"))
        for shorts in (names, names[::-1]):
            self.same(parse_kind("V / Vp", shorts=shorts), ("/", "v", "p"))
            self.same(parse_kind("V*Vpabc", shorts=shorts), ("*", "v", "q"))
            self.bad("Vpa", 3, shorts)
            self.bad("Vpa / n", 3, shorts)
            self.bad("Vpab", 4, shorts)
            self.bad("Vpabcd", 5, shorts)
            self.bad("Vx", 1, shorts)
            self.bad("VV", 1, shorts)
        self.same(parse_kind("Abcdefgh", shorts=(("Abcdefgh", "n"), ("A", "s"))), "n")

    def test_short_names_stand_in_brackets(self):
        self.same(parse_kind("A / A", shorts=(("A", ("/", "a", "b")),)), ("/", ("/", "a", "b"), ("/", "a", "b")))

    def test_all_short_texts_against_another_reader(self):
        names = ("V", "Vpa")
        shorts = tuple((name, "n") for name in names)
        for length in range(6):
            for signs in itertools.product("ap1.0(/) V" if length < 5 else "a1.(/) V", repeat=length):
                text = "".join(signs)
                try:
                    parse_kind(text, shorts=shorts)
                    place = None
                except KindError as error:
                    place = error.place
                wanted = None if is_good(text, names) else place_of(text, names)
                self.assertEqual(place, wanted, repr(text))
