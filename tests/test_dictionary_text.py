"""[63] to [65]: the texts of dictionaries."""

from tests.helper import Case, bush
from tests.test_dictionary import KINDS, word, words
from wordfractions.errors import DictionaryError
from wordfractions.kinds.text import format_kind
from wordfractions.words.dictionary import Dictionary
from wordfractions.words.text import format_dictionary, parse_dictionary

VP = (">", "n", "s")


class FormatTest(Case):

    def test_texts(self):
        self.same(format_dictionary(Dictionary("s")), "wish s")
        self.same(format_dictionary(Dictionary(VP, (("sees", (("/", VP, "n"), VP)), ("ann", ("n",))))),
                  "wish n > s\nsees : (n > s) / n ; n > s\nann : n")

    def test_reads_back(self):
        for d in (Dictionary("s"), Dictionary(bush(8, "abcdefgh"), words(60)),
                  Dictionary("s", (("wish", KINDS[:60]), ("short", ("n", bush(8, "a2345678")))))):
            self.assertTrue(parse_dictionary(format_dictionary(d)) == d)


class ParseTest(Case):

    def bad(self, row, *rows):
        self.refuses(DictionaryError, parse_dictionary, "\n".join(rows), row=row)

    def reads(self, wish, entries, *rows):
        d = parse_dictionary("\n".join(rows))
        self.assertIs(type(d), Dictionary)
        self.same((d.wish, d.entries), (wish, entries))

    def test_interface_examples(self):
        d = parse_dictionary("wish s\n\nshort Vp = n > s\nsees : Vp / n;Vp\n# names\n ann: n")
        self.same(format_dictionary(d), "wish s\nsees : (n > s) / n ; n > s\nann : n")
        self.bad(2, "wish s", "sees : Vp / n", "short Vp = n > s")

    def test_no_row_that_counts(self):
        self.bad(2, "")
        self.bad(3, "", "")
        self.bad(5, "# wish s", "   ", "", "#")
        self.bad(2, "#wish s")

    def test_rows_that_do_not_count(self):
        self.reads("s", (("cat", ("n",)),), "", "# a remark : with = all; of it", "   ", "wish s", "#", "", " ",
                   "cat : n", "", "#cat : s")
        self.bad(3, "wish s", "", " # no remark")
        self.bad(2, "wish s", "\t")
        self.bad(1, "\t", "wish s")
        self.bad(6, "", "#", "wish s", "   ", "#", "cat")

    def test_line_feeds_at_the_end(self):
        self.reads("s", (), "wish s", "")
        self.reads("s", (), "wish s", "", "")

    def test_wish_rows(self):
        self.reads(VP, (), "wish n > s")
        self.reads(VP, (), "wish    (n)>s   ")
        for row in ("wish", "wish ", "wish  ", " wish s", "wishs", "wish\ts", "Wish s", "wish s s", "wish s.1",
                    "wish S", "wish s = n", "wish s;n", "cat", "s", "wish " + format_kind(bush(9)), "wish n / s.3",
                    "wish a / b / c"):
            self.bad(1, row)
            self.bad(3, "", "# wish n", row, "wish s")
        self.reads(bush(8), (), "wish " + format_kind(bush(8)))

    def test_the_first_row_is_a_wish_row(self):
        self.bad(1, "cat : n", "wish s")
        self.bad(1, "wish : n", "wish s")
        self.bad(1, "wish s : n", "wish s")
        self.bad(1, "short Vp = n", "wish Vp")

    def test_no_other_wish_row(self):
        self.bad(2, "wish s", "wish s")
        self.bad(4, "wish s", "cat : n", "", "wish n", "cat : n")

    def test_word_rows(self):
        self.reads("s", (("cat", ("n",)),), "wish s", "cat:n")
        self.reads("s", (("cat", ("n", VP, "s")),), "wish s", "   cat   :  n ;(n > s);s  ")
        self.reads("s", (("cat", ("n",)), ("dog", ("n",))), "wish s", "cat : n", "dog : n")
        for row in ("cat", "cat n", "cat :: n", "cat : n : s", "cat : n ;; s", "cat : n ;", "cat : ; n", "cat :",
                    "cat : ", ": n", " : n", "Cat : n", "cat1 : n", "the cat : n", "c\tat : n", "cat\t: n",
                    "abcdefghijklm : n", "cat : N", "cat : n, s", "cat : n s", "cat : n = s", "cat : n.1",
                    "cat : n ; s.1", "cat : n ; n", "cat : n > s ; (n)>s", "cat : n / s / n", "cat : (n", "cat : n\t",
                    "cat : " + format_kind(bush(9)), "cat = n", "cat = n : s"):
            self.bad(2, "wish s", row)
            self.bad(3, "wish s", "# : :", row, "dog : n")

    def test_words_called_wish_and_short(self):
        self.reads("s", (("wish", ("n",)), ("short", ("s",))), "wish s", "wish : n", "short : s")
        self.reads("s", (("short", ("s",)),), "wish s", "short: s")
        self.bad(2, "wish s", "wish n : s")
        self.bad(2, "wish s", "short Vp = n : s")
        self.bad(3, "wish s", "wish : n", "wish : s")

    def test_an_earlier_word_again(self):
        self.bad(4, "wish s", "cat : n", "dog : n", " cat : s")

    def test_atoms_of_kinds(self):
        eight, nine = format_kind(bush(8)), format_kind(bush(9))
        self.reads("s", (("cat", (bush(8),)),), "wish s", f"cat : {eight}")
        self.bad(2, "wish s", f"cat : n ; {nine}")
        self.reads("s", (), "wish s", f"short A = {eight}")
        self.bad(2, "wish s", f"short A = {nine}")
        self.bad(3, "wish s", f"short A = {eight}", "cat : A / n")
        self.reads("s", (("cat", (("/", "a", "a"),)),), "wish s", "short A = a", "cat : A / A")

    def test_texts_of_four_hundred_characters_and_one_more(self):
        blanks = " " * 399
        self.reads("n", (("cat", ("n", "s")),), "wish n" + blanks, "short A = " + " " * 398 + "n",
                   "cat :n" + blanks + ";s" + blanks)
        self.bad(1, "wish n " + blanks)
        self.bad(2, "wish s", "cat : n" + blanks)
        self.bad(2, "wish s", "cat :n; s" + blanks)
        self.bad(2, "wish s", "short A = n" + blanks)
        self.reads("n", (), "wish n", "short " + blanks + "A" + blanks + " =n" + blanks)
        self.reads("n", (("cat", ("n",)),), "wish n", blanks + " cat " + blanks + ":n" + blanks)

    def test_short_rows(self):
        self.reads("s", (("cat", (VP,)),), "wish s", "short Vp=n>s", "cat : Vp")
        self.reads("s", (("cat", (VP,)),), "wish s", "short    Vp   =   n > s   ", "cat : Vp")
        self.reads("s", (("cat", ("n",)),), "wish s", "short Abcdefgh = n", "short A = s", "cat : Abcdefgh")
        for row in ("short", "short ", "short =", "short = n", "short Vp", "short Vp =", "short Vp = ", "short Vp n > s",
                    "short Vp == n", "short Vp = n = s", "short vp = n", "short VP = n", "short V1 = n", "short V p = n",
                    "short Abcdefghi = n", "short  = n", " short Vp = n", "shortVp = n", "short\tVp = n", "Short Vp = n",
                    "short Vp = n.1", "short Vp = Vp", "short Vp = n; s", "short Vp\t= n", "short Vp = n / s / n"):
            self.bad(2, "wish s", row)
            self.bad(3, "wish s", "", row)

    def test_short_names_ahead_and_behind(self):
        self.reads("s", (("cat", (("/", VP, VP),)),), "wish s", "short V = n > s", "short W = V / V", "cat : W")
        self.bad(2, "wish s", "short W = V / V", "short V = n")
        self.bad(1, "wish V", "short V = n")
        self.bad(2, "wish s", "cat : V", "short V = n")
        self.bad(4, "wish s", "short V = n", "", "short V = n")
        self.bad(3, "wish s", "short V = n", "short V = s")
        self.reads("s", (("cat", ("n", "s")),), "wish s", "short V = n", "short Vp = s", "cat : V ; Vp")
        self.reads("s", (("cat", ("n", "s")),), "wish s", "short Vp = s", "short V = n", "cat : V ; Vp")
        self.bad(3, "wish s", "short V = n", "cat : V ; n")

    def test_sixty_kinds_and_one_more(self):
        texts = [format_kind(kind) for kind in KINDS]
        self.reads("s", (("cat", KINDS[:60]),), "wish s", "cat : " + ";".join(texts[:60]))
        self.bad(2, "wish s", "cat : " + ";".join(texts[:61]))

    def test_sixty_words_and_one_more(self):
        rows = [f"{word(k)} : n" for k in range(61)]
        self.reads("s", words(60), "wish s", *rows[:60], "short A = n", "", "# more")
        self.bad(63, "wish s", *rows[:60], "short A = n", rows[60])

    def test_the_first_bad_row(self):
        self.bad(3, "wish s", "", "cat", "dog", "wish n")
        self.bad(2, "wish s", "wish s", "cat : N")
        self.bad(3, "wish s", "cat : n", "cat : n", "dog : n.1")
