"""[51] to [54]: trees."""

from tests.helper import Case, apply_over, apply_under, comb, identity, stub
from wordfractions.sequents.rules import make_axiom, make_step
from wordfractions.trees.shape import count_nodes, format_tree, largest_size, leaves_of, tree_fault, tree_kind

VP = (">", "n", "s")
SEES = ("/", VP, "n")
N, V = ("leaf", "n"), ("leaf", VP)
INNER = ("binary", VP, ("leaf", SEES), ("leaf", "n"), apply_over(VP, "n"))
SENTENCE = ("binary", "s", N, INNER, apply_under("s", "n"))
LIFTED = ("/", "s", VP)
LIFT = make_step("over right", 0, (apply_under("s", "n"),))
RAISED = ("binary", "s", ("unary", LIFTED, N, LIFT), V, apply_over("s", VP))


def changed(node, place, value):
    return node[:place] + (value,) + node[place + 1:]


class ShapeTest(Case):

    def test_kind(self):
        for tree, kind in ((N, "n"), (("leaf", "n.4"), "n.4"), (SENTENCE, "s"), (INNER, VP), (RAISED[2], LIFTED)):
            self.same(tree_kind(tree), kind)

    def test_leaves(self):
        self.same(leaves_of(V), (VP,))
        self.same(leaves_of(RAISED[2]), ("n",))
        self.same(leaves_of(SENTENCE), ("n", SEES, "n"))
        self.same(leaves_of(("binary", "s", INNER, SENTENCE, stub((), "n"))), (SEES, "n", "n", SEES, "n"))

    def test_counts(self):
        self.same(count_nodes(N), (1, 0, 0))
        self.same(count_nodes(RAISED[2]), (1, 1, 0))
        self.same(count_nodes(RAISED), (2, 1, 1))
        self.same(count_nodes(SENTENCE), (3, 0, 2))

    def test_largest_size(self):
        self.same(largest_size(N), 1)
        self.same(largest_size(SENTENCE), 3)
        self.same(largest_size(RAISED), 3)
        self.same(largest_size(changed(RAISED, 1, comb(40))), 40)
        # Kinds that stand only inside derivations do not count.
        self.same(largest_size(("unary", "n", N, identity(comb(40)))), 1)

    def test_two_hundred_nodes_and_long_paths(self):
        tree = N
        for _ in range(60):
            tree = ("unary", "n", tree, identity("n"))
        self.same(tree_fault(tree), None)
        self.same(count_nodes(tree), (1, 60, 0))
        tree = ("leaf", "n")
        for _ in range(60):
            tree = ("binary", "n", N, tree, stub((), "n"))
        self.same(count_nodes(tree), (61, 0, 60))
        self.same(leaves_of(tree), ("n",) * 61)
        self.assertEqual(format_tree(tree).split("\n")[-1], "  " * 60 + "leaf n")


class FaultTest(Case):

    def fault(self, tree, path):
        self.same(tree_fault(tree), path)

    def test_interface_example(self):
        self.fault(("unary", "s", ("unary", "s", ("leaf", "n"), identity("s")), identity("s")), (0,))

    def test_no_fault(self):
        for tree in (N, V, ("leaf", "n.7"), INNER, SENTENCE, RAISED, ("unary", "n", N, identity("n"))):
            self.fault(tree, None)

    def test_sequents_that_do_not_fit(self):
        self.fault(("unary", "s", N, identity("n")), ())
        self.fault(("unary", "s", N, identity("s")), ())
        self.fault(("unary", "n", ("leaf", "s"), identity("n")), ())
        self.fault(("unary", "n", ("leaf", "n.1"), identity("n")), ())
        self.fault(("unary", "s", N, apply_under("s", "n")), ())
        self.fault(("binary", "s", N, V, identity("s")), ())
        self.fault(("binary", "n", N, V, apply_under("s", "n")), ())
        self.fault(("binary", "s", N, V, make_step("pair right", 1, (identity("n"), identity(VP)))), ())

    def test_trees_exchanged(self):
        self.fault(("binary", "s", V, N, apply_under("s", "n")), ())
        self.fault(changed(SENTENCE, 3, changed(changed(INNER, 2, INNER[3]), 3, INNER[2])), (1,))

    def test_paths_to_both_sides(self):
        wrong = ("unary", "n", N, identity("s"))
        self.fault(changed(SENTENCE, 2, wrong), (0,))
        self.fault(changed(SENTENCE, 3, changed(INNER, 3, wrong)), (1, 1))
        self.fault(changed(changed(SENTENCE, 2, wrong), 3, changed(INNER, 3, wrong)), (0,))
        self.fault(changed(RAISED, 2, changed(RAISED[2], 2, wrong)), (0, 0))
        self.fault(changed(changed(RAISED, 2, changed(RAISED[2], 2, wrong)), 4, identity("s")), ())

    def test_a_unary_node_over_one_that_is_not_right(self):
        wrong = ("unary", "s", N, identity("s"))
        self.fault(("unary", "s", wrong, identity("s")), (0,))
        self.fault(("unary", "n", wrong, identity("s")), ())

    def test_faults_in_derivations(self):
        wrong = ("axiom", ("n",), "n", 0, 1, ())
        self.fault(("unary", "n", N, wrong), ())
        self.fault(("unary", "n", N, stub(("n",), "n")), ())
        deep = make_step("under left", 1, (wrong, make_axiom("s")))
        self.fault(("binary", "s", N, V, deep), ())
        self.fault(("unary", "x", SENTENCE, stub(("s",), "x")), ())
        self.fault(("unary", "s", ("binary", "s", N, V, deep), identity("s")), (0,))

    def test_cuts_are_faults(self):
        cut = make_step("cut", 0, (make_axiom("n"), make_axiom("n")))
        self.fault(("unary", "n", N, cut), ())
        self.fault(("binary", "s", N, V, make_step("under left", 1, (cut, make_axiom("s")))), ())
        self.fault(("unary", "s", ("binary", "s", N, V, make_step("under left", 1, (cut, make_axiom("s")))),
                    identity("s")), (0,))

    def test_leaves_are_right(self):
        self.fault(("leaf", comb(40)), None)


class FormatTest(Case):

    def test_interface_example(self):
        tree = ("binary", "s", ("leaf", "n"), ("leaf", (">", "n", "s")), apply_under("s", "n"))
        self.same(format_tree(tree), "binary s\n  leaf n\n  leaf n > s")

    def test_texts(self):
        self.same(format_tree(N), "leaf n")
        self.same(format_tree(SENTENCE),
                  "binary s\n  leaf n\n  binary n > s\n    leaf (n > s) / n\n    leaf n")
        self.same(format_tree(RAISED),
                  "binary s\n  unary s / (n > s)\n    leaf n\n  leaf n > s")

    def test_trees_with_faults(self):
        self.same(format_tree(("unary", "s.1", V, stub((), "n"))), "unary s.1\n  leaf n > s")
