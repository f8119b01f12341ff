"""[22], [23], [24]: closed tables, and what closes for a sequent."""

import itertools

from tests.helper import Case, all_derivations, bush
from tests.test_last_steps import small_sequents
from wordfractions.search.decide import decide
from wordfractions.sequents.sequent import balances_differ
from wordfractions.sequents.steps import last_steps
from wordfractions.sequents.tables import closes, is_closed
from wordfractions.sequents.text import parse_sequent

FIRST = parse_sequent("(n / n) / (n / n) => n / n")
SECOND = parse_sequent("(n / n) / (n / n), n => n")


class ClosedTest(Case):

    def test_interface_example(self):
        self.same(
            (is_closed((FIRST, SECOND)), is_closed((FIRST,)), closes((SECOND,), FIRST),
             closes((), parse_sequent("n => s"))), (True, False, False, True))

    def test_the_second_example_of_29(self):
        self.assertIs(is_closed((SECOND,)), True)
        self.assertIs(closes((FIRST, SECOND), FIRST), True)
        self.assertIs(closes((FIRST, SECOND), SECOND), True)
        self.assertIs(closes((SECOND,), SECOND), True)
        self.assertIs(closes((FIRST,), FIRST), False)
        self.assertIs(closes((FIRST,), SECOND), False)

    def test_the_empty_table(self):
        self.assertIs(is_closed(()), True)
        self.assertIs(closes((), FIRST), False)
        self.assertIs(closes((), parse_sequent("n => n")), False)
        self.assertIs(closes((), parse_sequent("n => n.1")), True)
        self.assertIs(closes((), parse_sequent("n, n => n")), True)

    def test_axioms_are_no_entries(self):
        for atom in ("n", "n.12"):
            axiom = ((atom,), atom)
            for table in ((axiom,), (SECOND, axiom), (axiom, SECOND)):
                self.assertIs(is_closed(table), False)
                self.assertIs(closes(table, axiom), False)
                self.assertIs(closes(table, SECOND), False)
        self.assertIs(is_closed(((("n.1",), "n"),)), False)

    def test_balances_that_differ_are_no_entries(self):
        for text in ("n => s", "n, n => n", "n / n, n => s", "n => n * n"):
            wrong = parse_sequent(text)
            self.assertIs(is_closed((wrong,)), False)
            self.assertIs(is_closed((SECOND, wrong)), False)
            self.assertIs(closes((wrong,), wrong), False)
            self.assertIs(closes((SECOND,), wrong), True)

    def test_a_table_that_is_not_closed_closes_for_nothing(self):
        for table in ((FIRST,), (parse_sequent("n => n"),), (parse_sequent("n => s"),)):
            self.assertIs(closes(table, parse_sequent("n => s")), False)
            self.assertIs(closes(table, table[0]), False)

    def test_entries_without_last_steps(self):
        for text in ("n > n, n => n", "n, n / n => n", "n, m > m => n", "n / (n / n) => n", "n => n * (n / n)"):
            entry = parse_sequent(text)
            steps = [step for step in last_steps(entry) if not any(balances_differ(part) for part in step[3])]
            self.assertEqual((steps, balances_differ(entry)), ([], False))
            self.assertIs(is_closed((entry,)), True)
            self.assertIs(closes((entry,), entry), True)
            self.assertIs(closes((), entry), False)
        self.assertEqual(last_steps(parse_sequent("n, n / n => n")), ())

    def test_order_and_repeated_entries(self):
        for table in itertools.permutations((FIRST, SECOND, FIRST, SECOND)):
            self.assertIs(is_closed(table), True)
            self.assertIs(closes(table, FIRST), True)
        self.assertIs(is_closed((FIRST, FIRST)), False)
        self.assertIs(is_closed((SECOND, SECOND)), True)

    def test_each_last_step_needs_a_refused_part(self):
        # Over left with width 1 and with width 2 both have to be refused.
        derived = parse_sequent("n / n, n / n, n => n")
        self.assertIs(is_closed((derived,)), False)
        below = parse_sequent("n / n, n => n")
        self.assertIs(is_closed((derived, below)), False)

    def test_one_refused_part_is_enough(self):
        entry = parse_sequent("n / (n / n), n > n => n")
        below = parse_sequent("n > n => n / n")
        self.assertEqual([step[3] for step in last_steps(entry) if step[0] == "over left"],
                         [(below, parse_sequent("n => n"))])
        self.assertIs(is_closed((entry,)), False)
        self.assertIs(is_closed((entry, below)), False)
        status, table = decide(entry)
        self.assertEqual(status, "refused")
        self.assertIn(below, table)
        self.assertIs(closes(table, entry), True)

    def test_the_second_part_may_be_the_refused_one(self):
        entry = parse_sequent("x / n, n, m > m => x")
        self.assertEqual([step[3] for step in last_steps(entry) if step[0] == "over left"], [
            (parse_sequent("n => n"), parse_sequent("x, m > m => x")),
            (parse_sequent("n, m > m => n"), parse_sequent("x => x"))])
        below = (parse_sequent("x, m > m => x"), parse_sequent("n, m > m => n"))
        self.assertIs(closes((entry,) + below, entry), True)
        self.assertIs(is_closed((entry, below[0])), False)
        self.assertIs(is_closed((entry, below[1])), False)

    def test_tables_of_the_search_and_an_entry_left_out(self):
        met = 0
        for text in ("(n / n) / (n / n) => n / n", "n * (n * (n > (n / n))) => n",
                     "(n / n) * ((n > n) > n) => n", "n => (n > n) / (n > (n / n))", "(n > n) * (n / n), n => n"):
            entry = parse_sequent(text)
            status, table = decide(entry)
            self.assertEqual(status, "refused")
            self.assertIs(closes(table, entry), True)
            self.assertIs(closes(table[::-1] + table, entry), True)
            for left_out in table:
                rest = tuple(other for other in table if other != left_out)
                self.assertIs(is_closed(rest), self.closed_by_the_words(rest))
                self.assertIs(closes(rest, left_out), False)
                met += 1
        self.assertGreater(met, 10)

    def closed_by_the_words(self, table):
        for entry in table:
            premises, goal = entry
            if premises == (goal,) and isinstance(goal, str) or balances_differ(entry):
                return False
            for _, _, _, parts in last_steps(entry):
                if not [part for part in parts if balances_differ(part) or part in table]:
                    return False
        return True

    def test_all_refused_sequents_together(self):
        derived = all_derivations(("n",), 6)
        refused = tuple(entry for sequents in small_sequents(("n",), 6) for entry in sequents
                        if entry not in derived and not balances_differ(entry))
        self.assertGreater(len(refused), 50)
        self.assertIs(is_closed(refused), True)
        self.assertIs(is_closed(tuple(entry for entry in refused if entry != FIRST)), True)
        for entry in list(derived)[::7]:
            self.assertIs(is_closed(refused + (entry,)), False)

    def test_parts_with_41_premises(self):
        for wide in ((("x",) * 20 + (("*", "m", "n"),) + ("x",) * 19, "g"), (("n",) * 40, ("/", "n", "n")),
                     (("n",) * 40, (">", "n", "n")), ((("*", "n", ("/", "n", "n")),) + ("n",) * 39, bush(38))):
            self.assertEqual(len(wide[0]), 40)
            self.assertTrue([part for step in last_steps(wide) for part in step[3] if len(part[0]) == 41])
            self.assertIs(is_closed((wide,)), False)
            self.assertIs(is_closed((SECOND, wide)), False)
            self.assertIs(closes((SECOND,), wide), True)
            self.assertIs(closes((FIRST,), wide), False)

    def test_numbers_make_unlike_atoms(self):
        self.assertIs(closes((), parse_sequent("n.1 => n.2")), True)
        self.assertIs(closes((parse_sequent("n.1 > n.1, n.2 => n.2"),), parse_sequent("n.1 > n.1, n.2 => n.2")), True)
        self.assertIs(closes((parse_sequent("n.1 > n.1, n.2 => n.2"),), parse_sequent("n.2 > n.2, n.1 => n.1")), False)
