"""[60], [61]: dictionaries."""

import itertools

from tests.helper import Case, bush, comb
from wordfractions.errors import FitError, SizeError, WordError
from wordfractions.kinds.order import kinds_up_to
from wordfractions.words.dictionary import Dictionary

KINDS = kinds_up_to(("n", "s"), 3)
NOT_WORDS = ("", "Cat", "cats1", "the cat", " cat", "cat ", "c-t", "abcdefghijklm", "cat\n", "\u00e9t\u00e9", "1", "wish:")


def word(number):
    return "abcdefghij"[number // 10] + "abcdefghij"[number % 10]


def words(many):
    return tuple((word(k), ("n",)) for k in range(many))


class MakeTest(Case):

    def test_interface_examples(self):
        d = Dictionary("s", (("the", (("/", "n", "c"),)), ("cat", ("c",))))
        self.same((len(d), list(d), "dog" in d), (2, ["the", "cat"], False))
        d = Dictionary("s", (("cat", ("c",)),)).with_kind("cat", "n").with_kind("dog", "c")
        self.same(d.without_kind("dog", "c").entries, (("cat", ("c", "n")),))

    def test_no_entries(self):
        for d in (Dictionary("s"), Dictionary("s", ()), Dictionary(wish="s", entries=())):
            self.same((d.wish, d.entries, len(d), list(d)), ("s", (), 0, []))

    def test_wish(self):
        self.refuses(FitError, Dictionary, "s.1")
        self.refuses(FitError, Dictionary, ("/", "s", "n.1"))
        self.refuses(FitError, Dictionary, ("/", "s.1", bush(8)))
        self.same(Dictionary(bush(8)).wish, bush(8))
        self.refuses(SizeError, Dictionary, bush(9))
        self.refuses(SizeError, Dictionary, comb(40))

    def test_words(self):
        for text in NOT_WORDS:
            self.refuses(WordError, Dictionary, "s", ((text, ("n",)),), word=text)
            self.refuses(WordError, Dictionary, "s", (("cat", ("n",)), (text, ("n",))), word=text)
        for text in ("a", "z", "wish", "short", "abcdefghijkl"):
            self.same(list(Dictionary("s", ((text, ("n",)),))), [text])

    def test_sixty_entries_and_one_more(self):
        self.same(len(Dictionary("s", words(60))), 60)
        self.refuses(SizeError, Dictionary, "s", words(61))

    def test_sixty_kinds_and_one_more(self):
        d = Dictionary("s", (("cat", KINDS[:60]),))
        self.same(d.kinds_of("cat"), KINDS[:60])
        self.refuses(SizeError, Dictionary, "s", (("cat", KINDS[:61]),))

    def test_kinds(self):
        self.refuses(FitError, Dictionary, "s", (("cat", ()),))
        self.refuses(FitError, Dictionary, "s", (("cat", ("n", "n.1")),))
        self.refuses(FitError, Dictionary, "s", (("cat", ("n", "s", "n")),))
        self.refuses(FitError, Dictionary, "s", (("cat", (("/", "n", "s"), ("/", "n", "s"))),))
        self.same(Dictionary("s", (("cat", ("n", bush(8))),)).kinds_of("cat"), ("n", bush(8)))
        self.refuses(SizeError, Dictionary, "s", (("cat", ("n", bush(9))),))
        self.same(Dictionary("s", (("cat", ("n",)), ("dog", ("n",)))).kinds_of("dog"), ("n",))

    def test_an_earlier_word_again(self):
        self.refuses(FitError, Dictionary, "s", (("cat", ("n",)), ("dog", ("n",)), ("cat", ("s",))))
        self.refuses(FitError, Dictionary, "s", (("cat", ("n",)), ("cat", ("n",))))

    def test_errors_in_the_listed_order(self):
        entry = (("cat", ("n",)),)
        faults = (
            (WordError, (("Cat", ()),)),
            (FitError, entry),
            (FitError, (("dog", ()),)),
            (SizeError, (("cow", KINDS[:61]),)),
            (FitError, (("ox", ("n.1", "n.1")),)),
            (SizeError, (("hen", (bush(9), "n.1")),)),
        )
        # The wish and the number of entries come ahead of everything else.
        self.refuses(FitError, Dictionary, ("/", "n.1", bush(9)), words(61))
        self.refuses(SizeError, Dictionary, bush(9), words(61) + (("Cat", ()),))
        self.refuses(SizeError, Dictionary, "s", (("Cat", ("n.1",)),) + words(60))
        # Of two bad entries the first one decides.
        for (error, first), (_, second) in itertools.product(faults, repeat=2):
            self.refuses(error, Dictionary, "s", entry + first + second)
        # Within an entry: word, the same word, no kinds, too many, then kind by kind.
        self.refuses(WordError, Dictionary, "s", (("Cat", ()), ("Cat", ())), word="Cat")
        self.refuses(FitError, Dictionary, "s", entry + (("cat", KINDS[:61]),))
        self.refuses(SizeError, Dictionary, "s", entry + (("cow", ("n.1",) * 61),))
        self.refuses(FitError, Dictionary, "s", (("cow", ("n.1", bush(9))),))
        self.refuses(FitError, Dictionary, "s", (("cow", ("n", "n", bush(9))),))
        self.refuses(SizeError, Dictionary, "s", (("cow", ("n", bush(9), "n", "n.1")),))
        self.refuses(FitError, Dictionary, "s", (("cow", (("/", "n.1", bush(9)), "n")),))


class UseTest(Case):

    def setUp(self):
        self.d = Dictionary("s", (("mary", ("n",)), ("sees", (("/", "n", "s"), "s")), ("ann", ("n", "s"))))

    def test_look_up(self):
        self.same(self.d.wish, "s")
        self.same(list(self.d), ["mary", "sees", "ann"])
        self.same([w for w in self.d], ["mary", "sees", "ann"])
        self.same(tuple(self.d), ("mary", "sees", "ann"))
        self.same(len(self.d), 3)
        self.same(self.d.kinds_of("ann"), ("n", "s"))
        for text, there in (("mary", True), ("ann", True), ("anna", False), ("", False), ("Mary", False), ("wish", False)):
            self.assertIs(text in self.d, there)

    def test_kinds_of_no_word(self):
        for text in ("dog", "", "Mary", "no word"):
            self.refuses(WordError, self.d.kinds_of, text, word=text)

    def test_nothing_can_be_set(self):
        for name in ("wish", "entries"):
            with self.assertRaises(AttributeError):
                setattr(self.d, name, "n")

    def test_equality(self):
        entries = self.d.entries
        self.assertIs(self.d == Dictionary("s", entries), True)
        self.assertIs(self.d != Dictionary("s", entries), False)
        self.assertIs(self.d == Dictionary("n", entries), False)
        self.assertIs(self.d == Dictionary("s", entries[:2]), False)
        self.assertIs(self.d == Dictionary("s", entries[::-1]), False)
        self.assertIs(self.d == Dictionary("s", entries[:2] + (("ann", ("s", "n")),)), False)
        self.assertIs(self.d == Dictionary("s", entries[:2] + (("anna", ("n", "s")),)), False)

    def test_equality_with_what_is_no_dictionary(self):
        for thing in (None, True, "s", (), ("s", self.d.entries), [], {}, dict(self.d.entries), self.d.entries):
            self.assertIs(self.d == thing, False)
            self.assertIs(self.d != thing, True)
        self.assertIs(Dictionary("s") == (), False)

    def test_methods_stand_in_the_class(self):
        for name in ("wish", "entries", "__len__", "__contains__", "__iter__", "__eq__", "kinds_of", "with_wish",
                     "with_kind", "without_kind"):
            self.assertIn(name, vars(Dictionary))


class ChangeTest(Case):

    def setUp(self):
        self.entries = (("mary", ("n",)), ("sees", (("/", "n", "s"), "s", "n")), ("ann", ("n", "s")))
        self.d = Dictionary("s", self.entries)

    def tearDown(self):
        self.assertEqual((self.d.wish, self.d.entries), ("s", self.entries))
        self.assertEqual(list(self.d), ["mary", "sees", "ann"])
        self.assertEqual(self.d.kinds_of("sees"), (("/", "n", "s"), "s", "n"))

    def test_with_wish(self):
        self.assertTrue(self.d.with_wish("n") == Dictionary("n", self.entries))
        self.assertTrue(self.d.with_wish("s") == self.d)
        self.refuses(FitError, self.d.with_wish, "n.1")
        self.refuses(FitError, self.d.with_wish, ("/", "n.1", bush(8)))
        self.refuses(SizeError, self.d.with_wish, bush(9))
        self.same(self.d.with_wish(bush(8)).wish, bush(8))

    def test_with_kind(self):
        self.same(self.d.with_kind("mary", "s").entries, (("mary", ("n", "s")),) + self.entries[1:])
        self.same(self.d.with_kind("ann", bush(8)).kinds_of("ann"), ("n", "s", bush(8)))
        self.same(self.d.with_kind("aa", "n").entries, self.entries + (("aa", ("n",)),))
        self.same(self.d.with_kind("aa", "n").wish, "s")
        self.same(Dictionary("s").with_kind("aa", "n").entries, (("aa", ("n",)),))

    def test_with_kind_refused(self):
        for text in NOT_WORDS:
            for kind in ("n", "n.1", bush(9)):
                self.refuses(WordError, self.d.with_kind, text, kind, word=text)
        self.refuses(FitError, self.d.with_kind, "mary", "n.1")
        self.refuses(FitError, self.d.with_kind, "mary", ("/", "n.1", bush(9)))
        self.refuses(SizeError, self.d.with_kind, "mary", bush(9))
        self.refuses(FitError, self.d.with_kind, "mary", "n")
        self.refuses(FitError, self.d.with_kind, "sees", ("/", "n", "s"))
        self.refuses(FitError, self.d.with_kind, "dog", "n.1")
        self.refuses(SizeError, self.d.with_kind, "dog", bush(9))

    def test_full(self):
        full = Dictionary("s", (("cat", KINDS[:60]),) + words(59))
        self.refuses(SizeError, full.with_kind, "cat", KINDS[60])
        self.refuses(FitError, full.with_kind, "cat", KINDS[59])
        self.refuses(FitError, full.with_kind, "cat", "n.1")
        self.refuses(SizeError, full.with_kind, "dog", "n")
        self.refuses(FitError, full.with_kind, "dog", "n.1")
        self.refuses(WordError, full.with_kind, "Dog", "n", word="Dog")
        self.same(full.with_kind(word(3), "s").kinds_of(word(3)), ("n", "s"))
        less = full.without_kind("cat", KINDS[0])
        self.same(less.with_kind("cat", KINDS[60]).kinds_of("cat"), KINDS[1:61])
        room = full.without_kind(word(0), "n")
        self.same(list(room.with_kind("dog", "n"))[-1], "dog")

    def test_without_kind(self):
        self.same(self.d.without_kind("sees", "s").entries,
                  (self.entries[0], ("sees", (("/", "n", "s"), "n")), self.entries[2]))
        self.same(self.d.without_kind("sees", ("/", "n", "s")).kinds_of("sees"), ("s", "n"))
        self.same(self.d.without_kind("ann", "n").kinds_of("ann"), ("s",))

    def test_a_word_goes_with_its_only_kind(self):
        less = self.d.without_kind("mary", "n")
        self.same((less.entries, list(less), "mary" in less, len(less)), (self.entries[1:], ["sees", "ann"], False, 2))
        self.refuses(WordError, less.kinds_of, "mary", word="mary")
        self.same(list(less.with_kind("mary", "n")), ["sees", "ann", "mary"])
        self.same(Dictionary("s", (("cat", ("n",)),)).without_kind("cat", "n").entries, ())

    def test_without_kind_refused(self):
        for text in ("dog", "", "Mary"):
            self.refuses(WordError, self.d.without_kind, text, "n", word=text)
        for kind in ("s", "n.1", bush(9), ("/", "n", "s")):
            self.refuses(FitError, self.d.without_kind, "mary", kind)
