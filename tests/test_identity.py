"""[30], [31]: identities."""

from tests import helper
from tests.helper import Case, bush, comb
from tests.worlds import count, value_of
from wordfractions.cuts.identity import identity
from wordfractions.kinds.order import kinds_up_to
from wordfractions.kinds.shape import size_of
from wordfractions.sequents.faults import count_steps, first_fault
from wordfractions.sequents.rows import format_derivation
from wordfractions.sequents.rules import make_axiom, sequent_of

A, B = make_axiom("a"), make_axiom("b")


class IdentityTest(Case):

    def test_interface_example(self):
        self.same(format_derivation(identity((">", "n", "s"))), "\n".join([
            "1 axiom 0 0 (): n => n", "2 axiom 0 0 (): s => s", "3 under left 1 1 (1 2): n, n > s => s",
            "4 under right 0 0 (3): n > s => n > s"]))

    def test_atoms(self):
        self.same(identity("n"), ("axiom", ("n",), "n", 0, 0, ()))
        self.same(identity("n.999999"), ("axiom", ("n.999999",), "n.999999", 0, 0, ()))

    def test_each_sign(self):
        over, under, pair = ("/", "a", "b"), (">", "b", "a"), ("*", "a", "b")
        self.same(identity(over), (
            "over right", (over,), over, 0, 0, (("over left", (over, "b"), "a", 0, 1, (B, A)),)))
        self.same(identity(under), (
            "under right", (under,), under, 0, 0, (("under left", ("b", under), "a", 1, 1, (B, A)),)))
        self.same(identity(pair), (
            "pair left", (pair,), pair, 0, 0, (("pair right", ("a", "b"), pair, 1, 0, (A, B)),)))

    def test_all_small_kinds(self):
        for atoms, most in ((("n",), 5), (("a", "b"), 3)):
            for kind in kinds_up_to(atoms, most):
                made = identity(kind)
                self.assertEqual(made, helper.identity(kind))
                self.assertEqual(sequent_of(made), ((kind,), kind))
                self.assertIsNone(first_fault(made))
                self.assertEqual(count_steps(made), 3 * size_of(kind) - 2)

    def test_forty_atoms(self):
        kinds = [comb(40, sign=sign, left=left) for sign in "/>*" for left in (True, False)]
        for kind in kinds + [bush(40, sign=sign) for sign in "/>*"]:
            made = identity(kind)
            self.assertEqual(sequent_of(made), ((kind,), kind))
            self.assertIsNone(first_fault(made))
            self.assertEqual(count_steps(made), 118)

    def test_value(self):
        world = {"a": 2, "b": 3}
        for kind in kinds_up_to(("a", "b"), 3):
            many = count(kind, world)
            if many <= 2000:
                for value in range(many):
                    self.assertEqual(value_of(identity(kind), world, (value,)), value)
