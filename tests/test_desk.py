"""[85] to [87]: the desk, its deeds, its verdicts and its work."""

import itertools
import random
import time

from tests.deskwork import PlainDesk, deed_by_chance, state_of, try_deed, try_plain
from tests.helper import Case, bush, comb
from tests.test_dictionary import NOT_WORDS
from wordfractions.desk.deeds import format_deed
from wordfractions.desk.desk import Desk
from wordfractions.desk.reading import read_words
from wordfractions.errors import DeedError, FitError, SizeError, WatchError, WordError
from wordfractions.kinds.order import kinds_up_to
from wordfractions.words.dictionary import Dictionary
from wordfractions.words.text import parse_dictionary

VP = (">", "n", "s")
UNARY = kinds_up_to(("n",), 3)


def news():
    return Desk(parse_dictionary("wish s\nmary : n\nann : n ; s / (n > s)\nsees : (n > s) / n\nsleeps : n > s"))


class NewDeskTest(Case):

    def test_a_new_desk(self):
        d = Dictionary("s", (("mary", ("n",)),))
        desk = Desk(d)
        self.assertTrue(desk.dictionary == d)
        self.same((desk.wish, desk.watched, desk.work, desk.verdicts()), ("s", (), 0, ()))
        self.same(desk.journal, "wish s\nmary : n\n---\n")
        self.same(Desk(Dictionary("n")).journal, "wish n\n---\n")

    def test_interface_example(self):
        desk = Desk(Dictionary("s", (("mary", ("n",)),)))
        desk.do_all(["watch mary sleeps", "put sleeps n > s", "put mary s", "undo"])
        self.same((desk.verdicts(), desk.work, desk.dictionary.kinds_of("mary")),
                  (((("mary", "sleeps"), True),), 4, ("n",)))

    def test_what_stands_in_the_class(self):
        for name in ("dictionary", "wish", "watched", "work", "journal", "put", "drop", "set_wish", "watch", "unwatch",
                     "undo", "verdicts", "read", "do", "do_all", "from_journal"):
            self.assertIn(name, vars(Desk))
        for name in ("dictionary", "wish", "watched", "work", "journal"):
            with self.assertRaises(AttributeError):
                setattr(news(), name, ())

    def test_the_dictionary_that_is_passed_in_stays(self):
        d = parse_dictionary("wish s\nmary : n")
        desk = Desk(d)
        desk.do_all(("put mary s", "put ann n", "wish n", "drop mary n"))
        self.same((d.wish, d.entries), ("s", (("mary", ("n",)),)))
        self.same((desk.wish, desk.dictionary.entries), ("n", (("mary", ("s",)), ("ann", ("n",)))))

    def test_two_desks(self):
        one, other = news(), news()
        one.watch(("mary", "sleeps"))
        one.put("cat", "n")
        self.same((other.watched, other.work, "cat" in other.dictionary), ((), 0, False))


class DeedsTest(Case):

    def unchanged(self, error, desk, call, *arguments, **fields):
        before = state_of(desk), desk.verdicts()
        self.refuses(error, call, *arguments, **fields)
        self.assertEqual((state_of(desk), desk.verdicts()), before)

    def test_put(self):
        desk = news()
        self.assertIsNone(desk.put("mary", "s"))
        desk.put("cat", "n")
        self.same(desk.dictionary.kinds_of("mary"), ("n", "s"))
        self.same(list(desk.dictionary)[-1], "cat")
        for text in NOT_WORDS:
            self.unchanged(WordError, desk, desk.put, text, "n.1", word=text)
        self.unchanged(FitError, desk, desk.put, "mary", "n.1")
        self.unchanged(FitError, desk, desk.put, "dog", ("/", "n.1", bush(9)))
        self.unchanged(SizeError, desk, desk.put, "mary", bush(9))
        self.unchanged(SizeError, desk, desk.put, "dog", comb(40))
        self.unchanged(FitError, desk, desk.put, "mary", "n")
        full = Desk(Dictionary("s", (("cat", kinds_up_to(("n", "s"), 3)[:60]),)))
        self.unchanged(SizeError, full, full.put, "cat", bush(8))
        full.put("dog", "n")

    def test_put_makes_a_watched_phrase_too_large(self):
        desk = Desk(Dictionary("n", (("a", UNARY[:10]), ("b", UNARY[:10]), ("c", UNARY[:9]), ("d", ("n",)))))
        desk.watch(("a", "b", "c"))
        desk.watch(("d", "d", "d", "x"))
        desk.put("c", UNARY[9])
        self.unchanged(SizeError, desk, desk.put, "c", UNARY[10])
        self.unchanged(SizeError, desk, desk.put, "a", UNARY[10])
        self.unchanged(FitError, desk, desk.put, "c", UNARY[9])
        desk.put("d", UNARY[10])
        desk.put("d", bush(8))
        # With a kind for x the other watched phrase has 25 atoms at least.
        self.unchanged(SizeError, desk, desk.put, "x", "n")
        desk.drop("d", bush(8))
        desk.put("x", "n")
        atoms = Desk(Dictionary("n", (("a", ("n",)), ("b", (bush(8),)))))
        atoms.watch(("b", "b", "a"))
        atoms.put("a", bush(7))
        self.unchanged(SizeError, atoms, atoms.put, "a", comb(8))
        # Beside a word without kinds nothing is too large.
        desk = Desk(Dictionary("n", (("a", UNARY), ("b", UNARY))))
        desk.watch(("a", "b", "a", "x"))
        self.unchanged(SizeError, desk, desk.put, "x", "n")

    def test_drop(self):
        desk = news()
        self.assertIsNone(desk.drop("ann", "n"))
        self.same(desk.dictionary.kinds_of("ann"), (("/", "s", VP),))
        desk.drop("mary", "n")
        self.same(list(desk.dictionary), ["ann", "sees", "sleeps"])
        for text in NOT_WORDS + ("mary", "dog"):
            self.unchanged(WordError, desk, desk.drop, text, "n", word=text)
        for kind in ("n", "n.1", bush(9), comb(40)):
            self.unchanged(FitError, desk, desk.drop, "ann", kind)

    def test_wish(self):
        desk = news()
        self.assertIsNone(desk.set_wish("n"))
        self.same((desk.wish, desk.dictionary.wish), ("n", "n"))
        self.unchanged(FitError, desk, desk.set_wish, "n.1")
        self.unchanged(FitError, desk, desk.set_wish, ("/", "n.1", bush(9)))
        self.unchanged(SizeError, desk, desk.set_wish, bush(9))
        desk.set_wish(bush(8))
        large = Desk(Dictionary("s", (("a", (bush(8),)),)))
        large.watch(("a", "a"))
        large.watch(("a", "a", "x", "a"))
        large.set_wish(bush(8))
        large.put("b", bush(7))
        large.set_wish("n")
        large.watch(("a", "a", "b"))
        self.unchanged(SizeError, large, large.set_wish, ("/", "s", "n"))
        large.set_wish("s")

    def test_watch(self):
        desk = news()
        self.assertIsNone(desk.watch(("mary", "sleeps")))
        desk.watch(("dog",))
        desk.watch(("mary", "sleeps", "mary"))
        self.same(desk.watched, (("mary", "sleeps"), ("dog",), ("mary", "sleeps", "mary")))
        for words in ((), ["mary"], None, "mary"):
            self.unchanged(FitError, desk, desk.watch, words)
            self.unchanged(FitError, desk, desk.unwatch, words)
        for text in NOT_WORDS:
            self.unchanged(WordError, desk, desk.watch, ("mary",) * 6 + (text,), word=text)
            self.unchanged(WordError, desk, desk.unwatch, ("mary", text, "A"), word=text)
        self.unchanged(SizeError, desk, desk.watch, ("mary",) * 7)
        self.unchanged(SizeError, desk, desk.unwatch, ("mary",) * 7)
        self.unchanged(WatchError, desk, desk.watch, ("dog",))
        self.unchanged(WatchError, desk, desk.unwatch, ("mary",))

    def test_twenty_phrases_and_one_more(self):
        desk = Desk(Dictionary("n", (("a", UNARY), ("b", UNARY))))
        for many in range(20):
            desk.watch(tuple("xyz"[k] for k in range(3) if many >> k & 1) + ("a",) * (many // 8) + ("c",))
        self.same(len(desk.watched), 20)
        self.unchanged(SizeError, desk, desk.watch, ("dog",))
        self.unchanged(SizeError, desk, desk.watch, ("a", "b", "a"))
        self.unchanged(WatchError, desk, desk.watch, desk.watched[7])
        self.unchanged(WordError, desk, desk.watch, ("Dog",), word="Dog")
        desk.unwatch(desk.watched[3])
        self.unchanged(SizeError, desk, desk.watch, ("a", "b", "a"))
        desk.watch(("a", "a"))
        self.same(len(desk.watched), 20)
        self.unchanged(SizeError, desk, desk.watch, ("dog",))
        desk.undo()
        desk.watch(("dog",))

    def test_watch_a_phrase_that_is_too_large(self):
        desk = Desk(Dictionary("n", (("a", UNARY[:10]), ("b", UNARY[:11]), ("c", (bush(8),)))))
        desk.watch(("a", "a", "a"))
        desk.watch(("b", "a", "b", "x"))
        desk.watch(("c", "c"))
        for words in (("a", "a", "b"), ("c", "c", "c"), ("b",) * 6):
            self.unchanged(SizeError, desk, desk.watch, words)
        self.unchanged(WatchError, desk, desk.unwatch, ("b",) * 6)

    def test_undo_of_each_deed(self):
        desk = news()
        for words in (("mary", "sleeps"), ("dog",), ("ann", "sees", "mary")):
            desk.watch(words)
        for deed in (("put", "mary", "s"), ("put", "dog", "n"), ("drop", "ann", "n"), ("drop", "mary", "n"), ("wish", "n"),
                     ("wish", "s"), ("watch", ("mary", "mary")), ("unwatch", ("dog",)), ("unwatch", ("mary", "sleeps"))):
            before = (desk.dictionary.wish, desk.dictionary.entries, desk.watched, desk.verdicts())
            self.assertIsNone(try_deed(desk, deed))
            self.assertTrue(deed == ("wish", "s") or before[:3] != (desk.wish, desk.dictionary.entries, desk.watched))
            self.assertIsNone(desk.undo())
            self.same((desk.dictionary.wish, desk.dictionary.entries, desk.watched, desk.verdicts()), before)

    def test_several_undone(self):
        desk = news()
        states = []
        deeds = (("put", "mary", "s"), ("drop", "mary", "n"), ("watch", ("mary",)), ("wish", "n"), ("unwatch", ("mary",)))
        for deed in deeds:
            states.append((desk.wish, desk.dictionary.entries, desk.watched))
            try_deed(desk, deed)
        for state in reversed(states):
            desk.undo()
            self.same((desk.wish, desk.dictionary.entries, desk.watched), state)
        for _ in range(3):
            self.unchanged(FitError, desk, desk.undo)
        self.same(desk.journal.split("\n")[-11:], ["put mary s", "drop mary n", "watch mary", "wish n", "unwatch mary"] + ["undo"] * 5 + [""])

    def test_an_undo_cannot_be_undone(self):
        desk = news()
        start = desk.dictionary.entries
        desk.do_all(("put mary s", "drop mary n", "undo", "undo"))
        self.same(desk.dictionary.entries, start)
        self.unchanged(FitError, desk, desk.undo)
        desk.do_all(("put mary s", "undo", "put ann s"))
        desk.undo()
        self.same(desk.dictionary.entries, start)

    def test_old_places(self):
        desk = news()
        desk.do_all(("watch mary", "watch ann", "watch dog"))
        entries, watched = desk.dictionary.entries, desk.watched
        desk.do_all(("unwatch ann", "watch cat", "undo", "undo"))
        self.same(desk.watched, watched)
        desk.do_all(("drop ann n", "undo", "drop mary n", "undo"))
        self.same(desk.dictionary.entries, entries)


class WorkTest(Case):

    def work(self, desk, *texts):
        """The work of each of these deeds."""
        found = []
        for text in texts:
            before = desk.work
            desk.do(text)
            found.append(desk.work - before)
        return found

    def test_each_deed(self):
        desk = news()
        self.same(self.work(desk, "watch mary sleeps", "watch sleeps", "watch dog", "put mary s", "put dog n", "put cat n",
                            "drop mary s", "drop ann n", "unwatch sleeps", "wish n", "wish n", "wish s", "put dog s", "undo",
                            "undo", "undo", "undo"),
                  [1, 1, 1, 1, 1, 0, 1, 0, 0, 2, 0, 2, 1, 1, 2, 0, 2])

    def test_a_changed_word_twice_counts_once(self):
        desk = news()
        self.same(self.work(desk, "watch mary mary", "watch mary sees mary", "put mary s", "drop mary n", "undo"), [1, 1, 2, 2, 2])

    def test_a_wish_that_stays_the_same(self):
        desk = news()
        self.same(self.work(desk, "watch mary", "watch ann", "wish s", "wish  ( s )", "undo", "undo", "wish n", "undo", "undo"),
                  [1, 1, 0, 0, 0, 0, 2, 2, 0])
        self.same(desk.watched, (("mary",),))

    def test_a_kind_dropped_and_put_again(self):
        desk = news()
        self.same(self.work(desk, "watch mary", "watch ann", "drop mary n", "put mary n", "drop ann n", "put ann n", "undo", "undo"),
                  [1, 1, 1, 1, 1, 1, 1, 1])
        desk = news()
        self.same(self.work(desk, "watch ann", "drop ann n", "put ann n"), [1, 1, 1])
        self.same(desk.dictionary.kinds_of("ann"), (("/", "s", VP), "n"))

    def test_undo_of_watching(self):
        desk = news()
        self.same(self.work(desk, "watch mary", "watch dog", "unwatch mary", "undo", "undo", "undo"), [1, 1, 0, 1, 0, 0])

    def test_words_that_are_not_there(self):
        desk = news()
        self.same(self.work(desk, "watch dog cat", "put dog n", "put cat n > s", "drop cat n > s", "drop dog n"), [1, 1, 1, 1, 1])

    def test_looking_is_no_work(self):
        desk = news()
        desk.do_all(("watch mary sleeps", "watch ann sees mary", "put mary s"))
        work = desk.work
        for _ in range(3):
            desk.verdicts()
            desk.read(("mary", "sleeps"))
            desk.read(("ann",))
        self.same(desk.work, work)
        self.same(work, 4)

    def test_the_work_follows_from_the_deeds_alone(self):
        texts = ("watch mary sleeps", "put mary s", "watch mary", "undo", "wish n", "drop mary n", "undo", "unwatch mary sleeps")
        one, other = news(), news()
        for text in texts:
            one.do(text)
            other.do(text)
            one.verdicts()
            self.same(one.work, other.work)
        self.same(one.verdicts(), other.verdicts())


class VerdictTest(Case):

    def test_verdicts(self):
        desk = news()
        for words in (("mary", "sleeps"), ("sleeps",), ("ann", "sees", "mary"), ("dog", "sleeps"), ("mary",)):
            desk.watch(words)
        self.same([verdict for _, verdict in desk.verdicts()], [True, False, True, False, False])
        self.same([words for words, _ in desk.verdicts()], list(desk.watched))
        desk.do("put dog n")
        self.same([verdict for _, verdict in desk.verdicts()], [True, False, True, True, False])
        desk.do("wish n")
        self.same([verdict for _, verdict in desk.verdicts()], [False, False, False, False, True])
        desk.do("undo")
        desk.do("undo")
        self.same([verdict for _, verdict in desk.verdicts()], [True, False, True, False, False])

    def test_read(self):
        desk = news()
        desk.put("mary", "s")
        for words in (("mary",), ("mary", "sleeps"), ("sleeps", "mary"), ("dog",)):
            got, wanted = desk.read(words), read_words(desk.dictionary, words)
            self.same(got[0], wanted[0])
            self.same(got[1] if got[0] == "sentence" else None, wanted[1] if got[0] == "sentence" else None)
        self.refuses(FitError, desk.read, ())
        self.refuses(WordError, desk.read, ("Mary",), word="Mary")
        self.refuses(SizeError, desk.read, ("mary",) * 7)
        self.refuses(SizeError, Desk(Dictionary("n", (("a", UNARY),))).read, ("a", "a", "a"))

    def test_reading_is_no_deed(self):
        desk = news()
        before = state_of(desk)
        desk.read(("mary", "sleeps"))
        self.assertEqual(state_of(desk), before)


class DoTest(Case):

    def test_do(self):
        desk = news()
        for text in ("put mary  s", "drop mary n", "wish ( n )", "watch the cat", "unwatch the cat", "undo"):
            self.assertIsNone(desk.do(text))
        self.same(desk.journal.split("---\n")[1], "put mary s\ndrop mary n\nwish n\nwatch the cat\nunwatch the cat\nundo\n")
        for text in ("", "put", "undo ", "watch", "put mary n / n / n", "read mary"):
            before = state_of(desk)
            self.refuses(DeedError, desk.do, text)
            self.assertEqual(state_of(desk), before)
        for error, text in ((FitError, "put mary n.1"), (SizeError, "wish " + "(" * 8 + "n" + "*n)" * 8), (FitError, "put mary s"),
                            (WordError, "drop dog n"), (WatchError, "watch the cat"), (WatchError, "unwatch mary")):
            before = state_of(desk)
            self.refuses(error, desk.do, text)
            self.assertEqual(state_of(desk), before)

    def test_do_all(self):
        desk = news()
        self.assertIsNone(desk.do_all(()))
        self.assertIsNone(desk.do_all([]))
        self.same(state_of(desk), state_of(news()))
        self.assertIsNone(desk.do_all(["put mary s", "undo"]))
        desk.do_all(("watch mary", "wish n"))
        self.same(desk.journal.split("---\n")[1], "put mary s\nundo\nwatch mary\nwish n\n")
        desk.undo()
        self.same((desk.wish, desk.watched), ("s", (("mary",),)))

    def test_an_error_at_each_place(self):
        good = ["put mary s", "watch mary sleeps", "undo", "wish n", "unwatch ann", "undo", "undo", "undo", "watch cat"]
        bad = ((DeedError, "undo "), (WordError, "drop dog n"), (FitError, "put sleeps n.1"), (SizeError, "put sleeps " + "n*(" * 8 + "n" + ")" * 8),
               (WatchError, "watch dog"), (WatchError, "unwatch bird"), (DeedError, "wish"))
        for kind in (list, tuple):
            for place in range(len(good) + 1):
                for error, text in bad:
                    desk = news()
                    desk.do_all(("watch dog", "watch ann", "put ann s", "drop sees (n > s) / n"))
                    before, verdicts = state_of(desk), desk.verdicts()
                    texts = kind(good[:place] + [text] + good[place:])
                    self.refuses(error, desk.do_all, texts)
                    self.assertEqual((state_of(desk), desk.verdicts()), (before, verdicts))
                    self.assertEqual(len(texts), len(good) + 1)
        desk = news()
        desk.do_all(("watch dog", "watch ann", "put ann s"))
        desk.do_all(good)

    def test_what_undo_leads_to_behind_a_refused_row(self):
        desk = news()
        desk.do_all(("put mary s", "watch mary"))
        self.refuses(FitError, desk.do_all, ["undo", "undo", "undo"])
        self.refuses(FitError, desk.do_all, ["put dog n", "undo", "undo", "undo", "undo"])
        self.same(desk.watched, (("mary",),))
        desk.undo()
        self.same((desk.watched, desk.dictionary.kinds_of("mary")), ((), ("n", "s")))
        desk.undo()
        self.same(desk.dictionary.kinds_of("mary"), ("n",))
        self.refuses(FitError, desk.undo)


class ChanceTest(Case):

    def test_against_a_plain_desk(self):
        rng = random.Random(1)
        errors = {}
        kinds = ("s", "n", VP, ("/", VP, "n"), "n.1", bush(9), ("/", "s", "n"), ("/", "s", VP), bush(8))
        words = ("mary", "ann", "sees", "sleeps", "dog", "Dog")
        for round_number in range(25):
            desk, plain = news(), PlainDesk(news().dictionary)
            for _ in range(60):
                deed = deed_by_chance(rng, plain, kinds, words)
                error = try_plain(plain, deed)
                self.assertEqual(try_deed(desk, deed), error, deed)
                errors[(deed[0], error)] = errors.get((deed[0], error), 0) + 1
                self.assertEqual((desk.wish, desk.dictionary.entries, desk.watched, desk.work, desk.journal), plain.state()[:5])
                if rng.random() < 0.3:
                    self.assertEqual(desk.verdicts(), plain.verdicts())
            self.assertEqual(desk.verdicts(), plain.verdicts())
            self.assertEqual(state_of(desk), plain.state())
        self.assertGreater(len(errors), 15)

    def test_texts_do_what_methods_do(self):
        rng = random.Random(2)
        kinds = ("s", "n", VP, ("/", VP, "n"), "n.1", bush(9))
        for _ in range(10):
            desk, other = news(), news()
            for _ in range(40):
                deed = deed_by_chance(rng, desk, kinds, ("mary", "ann", "sees", "dog"))
                error = try_deed(desk, deed)
                if error is None:
                    other.do(format_deed(deed))
                else:
                    self.refuses(error, other.do, format_deed(deed))
            self.assertEqual(state_of(desk), state_of(other))

    def test_many_deeds_are_done_in_seconds(self):
        begun = time.perf_counter()
        desk = Desk(Dictionary("n", (("a", UNARY[:10]), ("b", UNARY[5:15]), ("c", UNARY[10:20]))))
        for words in itertools.islice(itertools.product("abc", repeat=3), 20):
            desk.watch(words)
        self.same(len(desk.verdicts()), 20)
        for k in range(300):
            desk.do("wish n" if k % 2 else "wish n / n")
        self.same(desk.work, 20 + 300 * 20)
        self.same(len(desk.verdicts()), 20)
        self.assertLess(time.perf_counter() - begun, 30)
