"""[13]: the texts of sequents."""

import itertools

from tests.helper import Case, bush, comb
from wordfractions.errors import KindError, SequentError, SizeError
from wordfractions.kinds.text import format_kind
from wordfractions.sequents.text import format_sequent, parse_sequent

VP = (">", "n", "s")


class FormatTest(Case):

    def test_texts(self):
        for sequent, text in (((("n", VP), "s"), "n, n > s => s"), ((("n.1",), VP), "n.1 => n > s"),
                              (((("/", VP, "n"),), ("*", "a", ("/", "b", "c"))), "(n > s) / n => a * (b / c)")):
            self.same(format_sequent(sequent), text)
            self.same(parse_sequent(text), sequent)

    def test_no_limit_of_length(self):
        kind = bush(40, "abcdefgh.999999")
        text = format_sequent(((kind,), kind))
        self.same(text, format_kind(kind) + " => " + format_kind(kind))
        self.refuses(SizeError, parse_sequent, text)


class ParseTest(Case):

    def bad(self, text):
        self.refuses(SequentError, parse_sequent, text)

    def test_interface_example(self):
        self.same(parse_sequent("n,n>s=>s"), (("n", (">", "n", "s")), "s"))

    def test_blanks(self):
        for text in (" n , n > s => s ", "n,n>s=>s", "  n  ,  ( n>s )  =>  ( s )  ", "n ,n>s=> s"):
            self.same(parse_sequent(text), (("n", VP), "s"))

    def test_arrows(self):
        for text in ("", "n", "n, n > s", "n > s", "n = > s", "n = s", "n -> s", "n => s => s", "=> n =>", "n =>=> s",
                     "n, n > s => s =>", "n ==> s", "n =>> s"):
            self.bad(text)
        self.same(parse_sequent("n=>s"), (("n",), "s"))

    def test_empty_pieces(self):
        for text in ("=>", " => ", "=> s", " => s", "n =>", "n => ", ", n => s", "n, => s", "n,, n => s", "n, , n => s",
                     "n, n => "):
            self.bad(text)

    def test_bad_pieces(self):
        for text in ("n, N => s", "n => s, s", "n s => s", "n => s s", "a / b / c => s", "n => (s", "n) => s",
                     "n\n => s", "n =>\ts", "n, (n, n) => s", "n.0 => n", "n => n.07"):
            self.bad(text)

    def test_no_short_names(self):
        self.bad("Vp => s")
        self.bad("n => Vp")

    def test_the_kind_error_goes_along(self):
        with self.assertRaises(SequentError) as caught:
            parse_sequent("n, a / b / c => s")
        self.assertIs(type(caught.exception.__cause__), KindError)
        self.assertEqual(caught.exception.__cause__.place, 7)

    def test_the_first_refused_piece_decides(self):
        large = format_kind(comb(41))
        long = "n" + " " * 400
        for size_piece, bad_piece in itertools.product((large, long, "?" * 401), ("?", "", "n n", "a / b / c")):
            self.refuses(SizeError, parse_sequent, f"{size_piece},{bad_piece}=>n")
            self.bad(f"{bad_piece},{size_piece}=>n")
            self.refuses(SizeError, parse_sequent, f"n,{size_piece}=>{bad_piece}")
            self.bad(f"n,{bad_piece}=>{size_piece}")
            self.refuses(SizeError, parse_sequent, f"n=>{size_piece}")
            self.bad(f"{size_piece},{bad_piece}")
            self.bad(f"{size_piece}=>n=>n")

    def test_blanks_belong_to_the_piece(self):
        self.same(parse_sequent("n" + " " * 399 + "=>n"), (("n",), "n"))
        self.refuses(SizeError, parse_sequent, "n" + " " * 400 + "=>n")
        self.refuses(SizeError, parse_sequent, "n, n" + " " * 399 + "=> n")
        self.same(parse_sequent("n, n" + " " * 398 + "=> n"), (("n", "n"), "n"))

    def test_forty_premises_and_one_more(self):
        self.same(parse_sequent(", ".join(["n"] * 40) + " => n"), (("n",) * 40, "n"))
        self.refuses(SizeError, parse_sequent, ", ".join(["n"] * 41) + " => n")
        self.bad(", ".join(["n"] * 41) + " => ?")
        self.bad(", ".join(["n"] * 41) + ", => n")

    def test_eighty_atoms_and_one_more(self):
        for premises in ((comb(40),), (comb(39), "n"), ("n",) * 40):
            sequent = (premises, comb(40, left=False))
            self.same(parse_sequent(format_sequent(sequent)), sequent)
        self.refuses(SizeError, parse_sequent, format_sequent(((comb(40), "n"), comb(40))))
        self.bad(format_sequent(((comb(40), "n"), comb(40))) + "?")

    def test_reads_back_kinds_of_398_characters(self):
        kind = ("/", bush(30, "abcdefgh"), "abcdefgh.1")
        self.assertEqual(len(format_kind(kind)), 398)
        sequent = ((kind, kind), comb(18))
        self.same(parse_sequent(format_sequent(sequent)), sequent)
        longer = ("/", bush(30, "abcdefgh"), "abcdefgh.12")
        sequent = (("n", longer), "n")
        self.refuses(SizeError, parse_sequent, format_sequent(sequent))
