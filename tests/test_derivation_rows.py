"""[21]: the texts of derivations."""

import itertools

from tests.helper import Case, apply_over, bush, derivations, identity
from tests.test_last_steps import small_sequents
from wordfractions.errors import DerivationError, SizeError
from wordfractions.sequents.faults import count_steps
from wordfractions.sequents.rows import format_derivation, parse_derivation
from wordfractions.sequents.rules import make_axiom, make_step
from wordfractions.sequents.text import parse_sequent

EXAMPLE = """1 axiom 0 0 (): n => n
2 axiom 0 0 (): n => n
3 axiom 0 0 (): s => s
4 under left 1 1 (2 3): n, n > s => s
5 over left 1 1 (1 4): n, (n > s) / n, n => s"""
N, S = make_axiom("n"), make_axiom("s")
SEES = make_step("over left", 1, (N, make_step("under left", 1, (N, S))))


def chain(rows):
    """A derivation of n => n with an odd number of steps."""
    found = N
    for _ in range(rows // 2):
        found = make_step("cut", 0, (N, found))
    return found


class FormatTest(Case):

    def test_example(self):
        self.same(format_derivation(SEES), EXAMPLE)

    def test_identity_example(self):
        self.same(format_derivation(identity((">", "n", "s"))),
                  "1 axiom 0 0 (): n => n\n2 axiom 0 0 (): s => s\n3 under left 1 1 (1 2): n, n > s => s\n"
                  "4 under right 0 0 (3): n > s => n > s")

    def test_equal_parts_are_written_separately(self):
        pair = make_step("pair right", 1, (N, N))
        self.same(format_derivation(make_step("pair right", 2, (pair, pair))),
                  "1 axiom 0 0 (): n => n\n2 axiom 0 0 (): n => n\n3 pair right 1 0 (1 2): n, n => n * n\n"
                  "4 axiom 0 0 (): n => n\n5 axiom 0 0 (): n => n\n6 pair right 1 0 (4 5): n, n => n * n\n"
                  "7 pair right 2 0 (3 6): n, n, n, n => (n * n) * (n * n)")

    def test_cuts(self):
        self.same(format_derivation(make_step("cut", 0, (N, N))),
                  "1 axiom 0 0 (): n => n\n2 axiom 0 0 (): n => n\n3 cut 0 1 (1 2): n => n")

    def test_reads_back_all_small_derivations(self):
        for sequents in small_sequents(("n",), 6):
            for sequent in sequents:
                for derivation in derivations(sequent):
                    text = format_derivation(derivation)
                    self.assertEqual(parse_derivation(text), derivation)
                    self.assertEqual(len(text.split("\n")), count_steps(derivation))

    def test_kinds_with_long_texts(self):
        kind = bush(20, "abcdefgh.999999")
        derivation = make_step("pair right", 1, (identity(kind), identity(kind)))
        self.assertGreater(max(len(row) for row in format_derivation(derivation).split("\n")), 800)
        self.same(parse_derivation(format_derivation(derivation)), derivation)


class ParseTest(Case):

    def bad(self, row, *rows):
        self.refuses(DerivationError, parse_derivation, "\n".join(rows), row=row)

    def test_interface_examples(self):
        text = "1 axiom 0 0 (): s => s\n2 axiom 0 0 (): n => n\n3 under left 1 1 (2 1): n, n > s => s"
        self.same(parse_derivation(text)[1:5], (("n", (">", "n", "s")), "s", 1, 1))
        self.bad(3, "1 axiom 0 0 (): n => n", "2 axiom 0 0 (): s => s")

    def test_example(self):
        self.same(parse_derivation(EXAMPLE), SEES)

    def test_one_row(self):
        self.same(parse_derivation("1 axiom 0 0 (): n.12 => n.12"), make_axiom("n.12"))

    def test_rows_in_another_order(self):
        self.same(parse_derivation(
            "1 axiom 0 0 (): s => s\n2 axiom 0 0 (): n => n\n3 axiom 0 0 (): n => n\n"
            "4 under left 1 1 (3 1): n, n > s => s\n5 over left 1 1 (2 4): n, (n > s) / n, n => s"), SEES)

    def test_parts_in_their_order(self):
        self.bad(3, "1 axiom 0 0 (): s => s", "2 axiom 0 0 (): n => n", "3 under left 1 1 (1 2): n, n > s => s")
        self.same(parse_derivation(
            "1 axiom 0 0 (): s => s\n2 axiom 0 0 (): n => n\n3 under left 1 1 (1 2): s, s > n => n")[2], "n")

    def test_parts_named_twice(self):
        self.bad(2, "1 axiom 0 0 (): n => n", "2 pair right 1 0 (1 1): n, n => n * n")
        self.bad(3, "1 axiom 0 0 (): n => n", "2 axiom 0 0 (): n => n", "3 pair right 1 0 (1 1): n, n => n * n")

    def test_parts_of_two_rows(self):
        axioms = [f"{k} axiom 0 0 (): n => n" for k in (1, 2, 3)]
        self.bad(5, *axioms, "4 pair right 1 0 (1 2): n, n => n * n", "5 pair right 1 0 (1 3): n, n => n * n")
        self.same(parse_derivation("\n".join(axioms + [
            "4 pair right 1 0 (1 2): n, n => n * n", "5 pair right 1 0 (3 4): n, n, n => n * (n * n)"]))[2],
            ("*", "n", ("*", "n", "n")))

    def test_parts_that_are_not_there_yet(self):
        for parts in ("0 1", "1 2", "1 3", "1 99", "2 1", "1 -1", "1 1000000000", "1 10000000000"):
            self.bad(2, "1 axiom 0 0 (): n => n", f"2 pair right 1 0 ({parts}): n, n => n * n",
                     "3 axiom 0 0 (): n => n")

    def test_number_of_parts(self):
        axioms = [f"{k} axiom 0 0 (): n => n" for k in (1, 2, 3)]
        for parts in ("", "1", "1 2 3"):
            self.bad(4, *axioms, f"4 pair right 1 0 ({parts}): n, n => n * n")

    def test_axioms_have_no_parts(self):
        self.bad(2, "1 axiom 0 0 (): n => n", "2 axiom 0 0 (1): n => n")
        self.bad(1, "1 axiom 0 0 (1): n => n")

    def test_a_row_that_none_names(self):
        self.bad(4, "1 axiom 0 0 (): n => n", "2 axiom 0 0 (): n => n", "3 axiom 0 0 (): n => n")
        rows = EXAMPLE.split("\n")
        self.bad(5, *rows[:4])
        self.bad(7, *rows, "6 axiom 0 0 (): n => n")
        # A bad row comes first, however late it stands.
        self.bad(3, "1 axiom 0 0 (): n => n", "2 axiom 0 0 (): n => n", "?")

    def test_every_row_changed(self):
        rows = EXAMPLE.split("\n")
        changes = (("1 axiom", "0 axiom"), ("1 axiom", "2 axiom"), ("1 axiom", "01 axiom"), ("1 axiom", "+1 axiom"),
                   ("1 axiom", " 1 axiom"), ("1 axiom", "1  axiom"), ("1 axiom", "axiom"), ("axiom", "Axiom"),
                   ("axiom", "cut"), ("axiom", ""), ("axiom 0", "axiom 1"), ("axiom 0", "axiom 00"),
                   ("axiom 0", "axiom +0"), ("axiom 0", "axiom -0"), ("axiom 0", "axiom"), ("axiom 0 0", "axiom 0 1"),
                   ("axiom 0 0", "axiom 0 00"), ("axiom 0 0", "axiom 0 -0"), ("axiom 0 0", "axiom 0 0000000000"),
                   ("axiom 0 0", "axiom 0000000000 0"), ("axiom 0 0", "axiom 0 0 0"), ("0 0 ", "0 0"), ("0 0 ", "0 0  "),
                   ("()", "( )"), ("()", ""), ("()", "(0)"), ("()", "(())"), ("(): ", "():"), ("(): ", "():  "),
                   ("(): ", "() : "), ("n => n", "n=>n"), ("n => n", "n =>  n"), ("n => n", "n => n "),
                   ("n => n", "n => s"), ("n => n", "s => n"), ("n => n", "n, n => n"), ("n => n", "(n) => n"),
                   ("n => n", "n => (n)"), ("n => n", "n > s => n > s"), ("n => n", ""), ("n => n", "n => n => n"),
                   ("n => n", "n => n\t"), ("n => n", "n.0 => n.0"), ("n => n", "N => N"))
        for old, new in changes:
            self.assertIn(old, rows[0])
            self.bad(1, rows[0].replace(old, new, 1), *rows[1:])
        changes = (("4 under", "3 under"), ("under left", "over left"), ("under left", "under  left"),
                   ("under left", "under right"), ("under left", "left"), ("left 1 1", "left 0 1"),
                   ("left 1 1", "left 2 1"), ("left 1 1", "left 1 2"), ("left 1 1", "left 1 0"),
                   ("left 1 1", "left 01 1"), ("left 1 1", "left 1 01"), ("left 1 1", "left +1 1"),
                   ("left 1 1", "left 1 1 1"), ("left 1 1", "left 1"), ("left 1 1", "left -1 1"),
                   ("left 1 1", "left 1000000000 1"), ("left 1 1", "left 9999999999 1"), ("(2 3)", "(3 2)"),
                   ("(2 3)", "(2  3)"), ("(2 3)", "( 2 3)"), ("(2 3)", "(2 3 )"), ("(2 3)", "(2,3)"),
                   ("(2 3)", "(02 3)"), ("(2 3)", "(+2 3)"), ("(2 3)", "(2 0000000003)"), ("(2 3)", "(2)"),
                   ("(2 3)", "(2 3"), ("(2 3)", "2 3"), ("n, n > s", "n,n > s"), ("n, n > s", "n, n>s"),
                   ("n, n > s", "n, (n > s)"), ("n, n > s", "n > s, n"), ("=> s", "=> n"), ("=> s", "=> (s)"),
                   ("(2 3)", "(2 x)"), ("4 under", "4\tunder"))
        for old, new in changes:
            self.assertIn(old, rows[3])
            self.bad(4, *rows[:3], rows[3].replace(old, new, 1), rows[4])

    def test_rows_with_signs_beyond(self):
        self.bad(1, "1 axiom 0 0 (): n => n ")
        self.bad(1, " 1 axiom 0 0 (): n => n")
        self.bad(1, "\u0661 axiom 0 0 (): n => n")

    def test_empty_rows(self):
        self.bad(1, "")
        self.bad(1, "", "1 axiom 0 0 (): n => n")
        self.bad(2, "1 axiom 0 0 (): n => n", "")
        self.bad(2, "1 axiom 0 0 (): n => n", "", "")
        rows = EXAMPLE.split("\n")
        self.bad(3, *rows[:2], "", *rows[2:])
        self.bad(6, *rows, "")
        self.bad(1, " ")

    def test_two_hundred_rows_and_one_more(self):
        self.same(parse_derivation(format_derivation(chain(199))), chain(199))
        self.assertEqual(count_steps(chain(99)), 99)
        over = make_step("over right", 0, (make_step("over left", 0, (chain(99), chain(99))),))
        self.assertEqual(count_steps(over), 200)
        self.same(parse_derivation(format_derivation(over)), over)
        self.refuses(SizeError, parse_derivation, format_derivation(over) + "\n")
        self.refuses(SizeError, parse_derivation, format_derivation(chain(201)))
        self.refuses(SizeError, parse_derivation, "\n" * 200)
        self.bad(1, *[""] * 200)

    def test_steps_beyond_the_bounds(self):
        rows = ["1 axiom 0 0 (): n => n"]
        last = 1
        kind, premises = "n", "n"
        for many in range(2, 41):
            rows.append(f"{last + 1} axiom 0 0 (): n => n")
            kind = f"({kind}) * n" if many > 2 else "n * n"
            premises += ", n"
            rows.append(f"{last + 2} pair right {many - 1} 0 ({last} {last + 1}): {premises} => {kind}")
            last += 2
        text = "\n".join(rows)
        self.same(len(parse_derivation(text)[1]), 40)
        self.same(format_derivation(parse_derivation(text)), text)
        self.bad(last + 2, *rows, f"{last + 1} axiom 0 0 (): n => n",
                 f"{last + 2} pair right 40 0 ({last} {last + 1}): {premises}, n => ({kind}) * n")

    def test_cuts_are_read(self):
        cut = make_step("cut", 0, (apply_over("s", "n"), S))
        self.same(parse_derivation(format_derivation(cut)), cut)
        self.bad(3, "1 axiom 0 0 (): n => n", "2 axiom 0 0 (): s => s", "3 cut 0 1 (1 2): n => s")

    def test_all_rows_exchanged(self):
        """Each order of the rows of a derivation is read exactly if parts stand ahead."""
        rows = ((), (), (0, 1))
        wanted = make_step("pair right", 1, (N, S))
        texts = ("axiom 0 0 {}: n => n", "axiom 0 0 {}: s => s", "pair right 1 0 {}: n, s => n * s")
        for order in itertools.permutations(range(3)):
            number = {row: place + 1 for place, row in enumerate(order)}
            made = "\n".join(
                f"{number[row]} " + texts[row].format("(" + " ".join(str(number[part]) for part in rows[row]) + ")")
                for row in order)
            if order[2] == 2:
                self.same(parse_derivation(made), wanted)
            else:
                self.refuses(DerivationError, parse_derivation, made, row=number[2])

    def test_sequents_are_those_of_the_text(self):
        self.same(parse_derivation(EXAMPLE)[1:3], parse_sequent("n, (n > s) / n, n => s"))
