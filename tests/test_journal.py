"""[88], [89]: journals."""

import random
import time

from tests.deskwork import PlainDesk, deed_by_chance, state_of, try_deed, try_plain
from tests.helper import Case, bush
from wordfractions.desk.deeds import parse_deed
from wordfractions.desk.desk import Desk
from wordfractions.errors import JournalError, SizeError, WordsError
from wordfractions.words.dictionary import Dictionary
from wordfractions.words.text import parse_dictionary

HEAD = "wish s\nmary : n\n---\n"
FULL = parse_dictionary("wish s\nmary : n ; s / (n > s)\nsees : (n > s) / n\nsleeps : n > s")


class JournalTest(Case):

    def test_interface_example(self):
        desk = Desk.from_journal("wish s\nmary : n\n---\nwatch mary\nwish n\nundo\nwish ")
        self.same((desk.verdicts(), desk.work, desk.journal),
                  (((("mary",), False),), 3, "wish s\nmary : n\n---\nwatch mary\nwish n\nundo\n"))

    def test_the_text(self):
        desk = Desk(FULL)
        self.same(desk.journal, "wish s\nmary : n ; s / (n > s)\nsees : (n > s) / n\nsleeps : n > s\n---\n")
        desk.put("dog", ("/", ("/", "n", "s"), "n"))
        desk.watch(("mary", "sees", "dog"))
        desk.set_wish("n")
        desk.drop("mary", "n")
        desk.unwatch(("mary", "sees", "dog"))
        desk.undo()
        self.same(desk.journal.split("---\n")[1],
                  "put dog (n / s) / n\nwatch mary sees dog\nwish n\ndrop mary n\nunwatch mary sees dog\nundo\n")
        self.assertIsInstance(Desk.from_journal(desk.journal), Desk)

    def test_made_again(self):
        """The desk that is made again is the desk in every respect, undo too."""
        rng = random.Random(1)
        kinds = ("s", "n", (">", "n", "s"), "n.1", ("/", "s", "n"), bush(8))
        for _ in range(20):
            desk = Desk(FULL)
            for _ in range(30):
                try_deed(desk, deed_by_chance(rng, desk, kinds, ("mary", "sees", "sleeps", "dog")))
            again = Desk.from_journal(desk.journal)
            self.assertTrue(again.dictionary == desk.dictionary)
            self.same((again.watched, again.work, again.journal, again.verdicts()),
                      (desk.watched, desk.work, desk.journal, desk.verdicts()))
            while True:
                error = try_deed(desk, ("undo",))
                self.assertIs(try_deed(again, ("undo",)), error)
                self.same((again.watched, again.work, again.journal), (desk.watched, desk.work, desk.journal))
                self.assertTrue(again.dictionary == desk.dictionary)
                if error is not None:
                    break

    def test_cut_off_at_every_place(self):
        desk = Desk(FULL)
        deeds = [("watch", ("mary", "sleeps")), ("put", "dog", "n"), ("drop", "mary", "n"), ("undo",), ("wish", "n"),
                 ("unwatch", ("mary", "sleeps")), ("undo",), ("undo",), ("watch", ("dog",))]
        for deed in deeds:
            self.assertIsNone(try_deed(desk, deed))
        text = desk.journal
        first = text.index("---\n") + 4
        for stop in range(len(text) + 1):
            if stop < first:
                self.refuses(JournalError, Desk.from_journal, text[:stop])
                continue
            plain = PlainDesk(FULL)
            for row in text[first:stop].split("\n")[:-1]:
                plain.do(parse_deed(row))
            self.assertEqual(state_of(Desk.from_journal(text[:stop])), plain.state())

    def test_what_stands_behind_the_last_line_feed(self):
        for rest in ("wish ", "undo", "watch mary", "what\tever", "---", "put mary n", " ", "#", "\t"):
            desk = Desk.from_journal(HEAD + "watch mary\n" + rest)
            self.same((desk.journal, desk.work), (HEAD + "watch mary\n", 1))
            self.same(Desk.from_journal(HEAD + rest).journal, HEAD)

    def test_remarks_shorts_and_blanks(self):
        desk = Desk.from_journal("# a remark\n\nwish  (s)\n  \nshort Vp = n > s\nsees : Vp/n;Vp\n# more\n ann: n\n\n---\n"
                                 "put cat  ( n )\nwish   s\nwatch ann sees\n")
        self.same(desk.journal, "wish s\nsees : (n > s) / n ; n > s\nann : n\n---\nput cat n\nwish s\nwatch ann sees\n")
        self.same(desk.verdicts(), ((("ann", "sees"), True),))
        self.same(Desk.from_journal("wish s\n\n---\n").journal, "wish s\n---\n")
        self.same(Desk.from_journal("wish s\n\n\n---\n").journal, "wish s\n---\n")
        self.same(Desk.from_journal("wish s\n---\n---").journal, "wish s\n---\n")

    def test_bad_dictionaries(self):
        for head in ("", "\n", "\n\n", "# wish s\n", "mary : n\n", "wish\n", "wish s\nmary n\n", "wish s.1\n", "wish s\nwish s\n",
                     "wish s\nmary : \n", "wish s\nmary : n ; n\n", "wish s\n ---\n", "wish s\n--- \n", "wish s\n----\n", "wish s\n--\n"):
            self.refuses(JournalError, Desk.from_journal, head + "---\n")
            self.refuses(JournalError, Desk.from_journal, head + "---\nundo\n")
        self.refuses(JournalError, Desk.from_journal, "---\nwish s\n---\n")

    def test_no_row_of_three_dashes(self):
        for text in ("", "\n", "wish s", "wish s\n", "wish s\n---", "---", "wish s\n----\n", "wish s\n ---\n", "wish s\n--- \n",
                     "wish s\nmary : n\n", "wish s---\n", "wish s\n# ---\n"):
            self.refuses(JournalError, Desk.from_journal, text)

    def test_the_first_row_of_three_dashes_decides(self):
        self.refuses(JournalError, Desk.from_journal, HEAD + "---\n")
        self.refuses(JournalError, Desk.from_journal, HEAD + "watch mary\n---\nundo\n")
        self.same(Desk.from_journal(HEAD + "watch mary\n---").work, 1)

    def test_bad_rows(self):
        for row in ("", " ", "#", "# remark", "undo ", "watch", "put mary", "put  mary n", "what", "wish", "watch Mary", "wish s.0",
                    "watch a b c d e f g", "put mary n / n / n"):
            self.refuses(JournalError, Desk.from_journal, HEAD + row + "\n")
            self.refuses(JournalError, Desk.from_journal, HEAD + "watch mary\n" + row + "\nundo\n")
            self.refuses(JournalError, Desk.from_journal, HEAD + "watch mary\nundo\n" + row + "\n")

    def test_refused_deeds(self):
        for row in ("undo", "put mary n", "put mary n.1", "put mary " + "(" * 8 + "n" + " * n)" * 8, "drop dog n", "drop mary s",
                    "wish s.1", "unwatch mary", "watch mary\nwatch mary", "put ann n\nundo\nundo"):
            self.refuses(JournalError, Desk.from_journal, HEAD + row + "\n")
        rows = "".join(f"watch {'mary ' * k}{word}\n" for k in range(5) for word in ("a", "b", "c", "d"))
        self.same(len(Desk.from_journal(HEAD + rows).watched), 20)
        self.refuses(JournalError, Desk.from_journal, HEAD + rows + "watch dog\n")

    def test_every_error_is_a_journal_error(self):
        """Whatever is changed in a journal, it is read or refused as the text says."""
        rng = random.Random(2)
        desk = Desk(FULL)
        desk.do_all(("watch mary sleeps", "put dog n", "drop mary n", "undo", "wish n", "unwatch mary sleeps", "undo"))
        text = desk.journal
        met = {True: 0, False: 0}
        for _ in range(600):
            place = rng.randrange(len(text))
            changed = text[:place] + rng.choice(("", " ", "\n", "n", "-", ";", "#", "z")) + text[place + rng.randint(0, 2):]
            try:
                again = Desk.from_journal(changed)
            except WordsError as why:
                self.assertIs(type(why), JournalError)
                met[False] += 1
            else:
                head, _, rest = changed.partition("\n---\n")
                plain = PlainDesk(parse_dictionary(head))
                for row in rest.split("\n")[:-1]:
                    self.assertIsNone(try_plain(plain, parse_deed(row)))
                self.assertEqual((again.dictionary.entries, again.watched, again.work, again.journal),
                                 (plain.dictionary.entries, plain.watched, plain.work, plain.journal()))
                met[True] += 1
        self.assertGreater(min(met.values()), 30)

    def test_a_thousand_line_feeds_and_one_more(self):
        rows = "wish n\n" * 998
        begun = time.perf_counter()
        desk = Desk.from_journal("wish s\n---\n" + rows)
        self.same((desk.journal.count("\n"), desk.work, desk.wish), (1000, 0, "n"))
        self.same(Desk.from_journal("wish s\n---\n" + rows + "rest").journal, desk.journal)
        for text in ("wish s\n---\n" + rows + "\n", "\n" * 1001, "x" + "\n" * 1001, "wish s\n---\n" + rows + "undo\nrest"):
            self.refuses(SizeError, Desk.from_journal, text)
        self.refuses(JournalError, Desk.from_journal, "\n" * 1000)
        desk.do("wish n")
        self.refuses(SizeError, Desk.from_journal, desk.journal)
        busy = "wish s\n---\n" + "".join(f"watch {word}\n" for word in "abcdefghijklmnopqrst") + "wish n\nwish s\n" * 480
        self.same(Desk.from_journal(busy).work, 20 + 960 * 20)
        self.assertLess(time.perf_counter() - begun, 20)

    def test_an_empty_dictionary(self):
        desk = Desk.from_journal("wish s\n---\n")
        self.assertTrue(desk.dictionary == Dictionary("s"))
        self.same((desk.watched, desk.work), ((), 0))
