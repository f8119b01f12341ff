"""[84]: texts of deeds."""

import random

from tests.helper import Case, bush, comb
from tests.test_dictionary import NOT_WORDS
from wordfractions.desk.deeds import format_deed, parse_deed
from wordfractions.errors import DeedError
from wordfractions.kinds.order import kinds_up_to

NAMES = ("put", "drop", "wish", "watch", "unwatch", "undo")
PAIRS = (
    (("put", "cat", "n"), "put cat n"),
    (("put", "cat", ("/", "n", "c")), "put cat n / c"),
    (("put", "abcdefghijkl", ("/", (">", "n", "s"), "n")), "put abcdefghijkl (n > s) / n"),
    (("drop", "cat", ("*", "n", "s.4")), "drop cat n * s.4"),
    (("drop", "a", "n.999999"), "drop a n.999999"),
    (("wish", "s"), "wish s"),
    (("wish", (">", "n", ("/", "s", "n"))), "wish n > (s / n)"),
    (("watch", ("cat",)), "watch cat"),
    (("watch", ("the", "cat")), "watch the cat"),
    (("watch", ("a", "b", "a", "b", "a", "b")), "watch a b a b a b"),
    (("unwatch", ("cat",)), "unwatch cat"),
    (("unwatch", ("the", "the", "cat")), "unwatch the the cat"),
    (("undo",), "undo"),
)


class DeedTest(Case):

    def test_interface_example(self):
        self.same((parse_deed("put cat  (n) / c"), format_deed(("watch", ("the", "cat")))),
                  (("put", "cat", ("/", "n", "c")), "watch the cat"))

    def test_each_form(self):
        for deed, text in PAIRS:
            self.same(format_deed(deed), text)
            self.same(parse_deed(text), deed)

    def test_there_and_back(self):
        rng = random.Random(1)
        kinds = kinds_up_to(("n", "s"), 3) + kinds_up_to(("n",), 4)
        for _ in range(300):
            kind = rng.choice(kinds)
            words = tuple(rng.choice(("a", "undo", "cat", "put", "wish")) for _ in range(rng.randint(1, 6)))
            for deed in (("put", words[0], kind), ("drop", words[0], kind), ("wish", kind), ("watch", words),
                         ("unwatch", words)):
                self.same(parse_deed(format_deed(deed)), deed)

    def test_more_blanks_in_kinds(self):
        for text, deed in (("put cat  n", ("put", "cat", "n")), ("put cat n  ", ("put", "cat", "n")),
                           ("put cat   ( n/s )  ", ("put", "cat", ("/", "n", "s"))), ("drop cat  n>s", ("drop", "cat", (">", "n", "s"))),
                           ("wish  s", ("wish", "s")), ("wish    ((s))   ", ("wish", "s")), ("wish s/n", ("wish", ("/", "s", "n")))):
            self.same(parse_deed(text), deed)

    def test_words_that_are_names_of_deeds(self):
        for name in NAMES:
            self.same(parse_deed(f"put {name} n"), ("put", name, "n"))
            self.same(parse_deed(f"drop {name} {name}"), ("drop", name, name))
            self.same(parse_deed(f"wish {name}"), ("wish", name))
            self.same(parse_deed(f"watch {name} undo {name}"), ("watch", (name, "undo", name)))
            self.same(parse_deed(f"unwatch {name}"), ("unwatch", (name,)))

    def test_kinds_with_numbers_or_many_atoms(self):
        for kind in ("n.1", ("/", "n.12", "s"), bush(9), comb(40), comb(40, left=False)):
            for deed in (("put", "cat", kind), ("drop", "cat", kind), ("wish", kind)):
                self.same(parse_deed(format_deed(deed)), deed)
        self.refuses(DeedError, parse_deed, "wish " + " * ".join(["n"] * 3))
        over = "n"
        for _ in range(40):
            over = f"({over})*n"
        self.refuses(DeedError, parse_deed, "put cat " + over[:-2] + "*n")
        self.refuses(DeedError, parse_deed, "wish " + over)

    def test_four_hundred_characters_and_one_more(self):
        for head in ("put cat ", "drop cat ", "wish "):
            self.same(parse_deed(head + " " * 399 + "n")[-1], "n")
            self.same(parse_deed(head + "n" + " " * 399)[-1], "n")
            self.refuses(DeedError, parse_deed, head + " " * 400 + "n")
            self.refuses(DeedError, parse_deed, head + "n" + " " * 400)
            self.same(parse_deed(head + "(" * 199 + "ab" + ")" * 199)[-1], "ab")
            self.refuses(DeedError, parse_deed, head + "(" * 199 + "abc" + ")" * 199)

    def test_texts_that_are_not_read(self):
        for text in ("put  cat n", "put cat", "watch", "watch the  cat", "watch the cat ", " undo", "undo ", "undo  ", "", " ",
                     "put", "put ", "put  ", "put cat ", "put cat  ", "put n", "drop cat", "drop", "drop ", "drop  cat n", "wish", "wish ",
                     "wish  ", "Undo", "undo undo", "undo cat", "watch ", "watch  the", "unwatch", "unwatch ", "unwatch  a", "unwatch a ",
                     " watch a", " put cat n", " wish s", "watched a", "puts cat n", "do", "put\tcat n", "watch\ta", "watch a\tb",
                     "put cat n;s", "put cat n ; s", "put cat A", "wish Vp", "wish s\n", "undo\n", "\nundo", "put cat\nn", "put cat n\n",
                     "watch a\n", "watch a\nb", "watch a b\n", "watch a b c d e f g", "unwatch a b c d e f g", "put cat n / s / n",
                     "put cat (n", "put cat n.0", "put cat n.", "wish abcdefghi", "wish a b", "read a", "verdicts", "#undo", "wish #",
                     "put cat : n", "put cat, n", "watch a, b", "watch a,b", "put the cat n"):
            self.refuses(DeedError, parse_deed, text)

    def test_words_that_are_none(self):
        for text in NOT_WORDS:
            if text != "cat ":
                self.refuses(DeedError, parse_deed, f"put {text} n")
                self.refuses(DeedError, parse_deed, f"drop {text} n")
            if text != "the cat":
                self.refuses(DeedError, parse_deed, f"watch {text}")
                self.refuses(DeedError, parse_deed, f"watch a {text} b")
                self.refuses(DeedError, parse_deed, f"unwatch a {text}")
