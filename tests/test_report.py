"""[91]: the report."""

from tests.helper import Case
from wordfractions.desk.desk import Desk
from wordfractions.desk.report import report
from wordfractions.words.dictionary import Dictionary
from wordfractions.words.text import parse_dictionary


class ReportTest(Case):

    def test_interface_example(self):
        desk = Desk(Dictionary("s", (("mary", ("n",)), ("sleeps", ((">", "n", "s"), "s")))))
        desk.do_all(("watch mary", "watch mary sleeps"))
        self.same(report(desk), "wish s\nmary    n\nsleeps  n > s ; s\n---\nno   mary\nyes  mary sleeps\nwork 2")

    def test_no_words(self):
        self.same(report(Desk(Dictionary(("/", "s", ("/", "n", "c"))))), "wish s / (n / c)\n---\nwork 0")
        desk = Desk(Dictionary("s"))
        desk.watch(("dog", "cat"))
        self.same(report(desk), "wish s\n---\nno   dog cat\nwork 1")

    def test_columns(self):
        desk = Desk(parse_dictionary("wish s\na : n\nabcdefghijkl : n / n ; (n > s) / n ; s\nabc : n * n"))
        self.same(report(desk), "wish s\na             n\nabcdefghijkl  n / n ; (n > s) / n ; s\nabc           n * n\n---\nwork 0")
        desk.drop("abcdefghijkl", "s")
        desk.put("a", "s")
        self.same(report(desk), "wish s\na             n ; s\nabcdefghijkl  n / n ; (n > s) / n\nabc           n * n\n---\nwork 0")
        one = Desk(parse_dictionary("wish n\na : n ; s"))
        self.same(report(one), "wish n\na  n ; s\n---\nwork 0")

    def test_verdicts_and_work(self):
        desk = Desk(parse_dictionary("wish s\nmary : n\nsleeps : n > s"))
        desk.do_all(("watch sleeps mary", "watch mary sleeps", "watch mary", "put mary s"))
        self.same(report(desk), "wish s\nmary    n ; s\nsleeps  n > s\n---\nno   sleeps mary\nyes  mary sleeps\nyes  mary\nwork 6")
        desk.do_all(("undo", "unwatch mary sleeps", "wish n"))
        self.same(report(desk), "wish n\nmary    n\nsleeps  n > s\n---\nno   sleeps mary\nyes  mary\nwork 11")

    def test_a_report_changes_nothing(self):
        desk = Desk(parse_dictionary("wish s\nmary : n"))
        desk.watch(("mary",))
        before = (desk.work, desk.journal, desk.watched)
        self.same(report(desk), report(desk))
        self.same((desk.work, desk.journal, desk.watched), before)
