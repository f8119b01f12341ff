"""[16], [19], [20]: faults, paths, walking."""

import itertools

from tests.helper import Case, apply_over, apply_under, bush, identity, stub
from wordfractions.sequents.faults import count_steps, first_fault, is_cut_free, walk_steps
from wordfractions.sequents.rules import make_axiom, make_step

VP = (">", "n", "s")
WRONG = ("axiom", ("n",), "n", 0, 1, ())


def changed(step, place, value):
    return step[:place] + (value,) + step[place + 1:]


def cut_of(kind):
    return make_step("cut", 0, (identity(kind), identity(kind)))


class FirstFaultTest(Case):

    def fault(self, derivation, path, **words):
        self.same(first_fault(derivation, **words), path)

    def test_interface_examples(self):
        n = make_axiom("n")
        cut = make_step("cut", 0, (n, n))
        self.same((first_fault(cut), first_fault(cut, allow_cuts=True)), ((), None))
        wrong = ("axiom", ("n",), "n", 0, 1, ())
        self.same(first_fault(make_step("over left", 0, (make_axiom("s"), wrong))), (1,))

    def test_no_fault(self):
        for derivation in (make_axiom("n.3"), identity(("/", VP, ("*", "n", "s"))), apply_under(VP, "n"),
                           apply_over("s", VP)):
            self.fault(derivation, None)
            self.fault(derivation, None, allow_cuts=False)
            self.fault(derivation, None, allow_cuts=True)

    def test_wrong_axioms(self):
        for axiom in (("axiom", (), "n", 0, 0, ()), ("axiom", ("n", "n"), "n", 0, 0, ()),
                      ("axiom", ("n",), "s", 0, 0, ()), ("axiom", ("n",), "n.1", 0, 0, ()),
                      ("axiom", ("n",), "n", 1, 0, ()), WRONG, ("axiom", ("n",), "n", 0, 0, (make_axiom("n"),)),
                      ("axiom", (VP,), VP, 0, 0, ()), ("Axiom", ("n",), "n", 0, 0, ()), ("", ("n",), "n", 0, 0, ()),
                      ("axiom", ("n",), "n", -1, 0, ()), ("axiom", ("n",), "n", 0, 10 ** 30, ())):
            self.fault(axiom, ())
            self.fault(axiom, (), allow_cuts=True)
            if axiom[1]:
                self.fault(make_step("pair right", 1, (make_axiom("n"), axiom)), (1,))

    def test_each_entry_of_a_step(self):
        for step in (apply_under("s", "n"), identity(VP), identity(("*", "n", "s"))):
            self.fault(step, None)
            self.fault(changed(step, 0, "under"), ())
            self.fault(changed(step, 0, "axiom"), ())
            self.fault(changed(step, 1, step[1] + ("n",)), ())
            self.fault(changed(step, 1, ()), ())
            self.fault(changed(step, 2, "m"), ())
            self.fault(changed(step, 3, step[3] + 1), ())
            self.fault(changed(step, 3, -1), ())
            self.fault(changed(step, 4, step[4] + 1), ())
            self.fault(changed(step, 5, step[5] + (make_axiom("n"),)), ())
            self.fault(changed(step, 5, step[5][:-1]), ())

    def test_parts_exchanged(self):
        step = apply_under("s", "n")
        self.fault(changed(step, 5, step[5][::-1]), ())

    def test_fault_in_a_first_and_in_a_second_part(self):
        n, s = make_axiom("n"), make_axiom("s")
        self.fault(make_step("under left", 1, (WRONG, s)), (0,))
        self.fault(make_step("under left", 1, (s, WRONG)), (1,))
        deep = make_step("over left", 1, (n, make_step("under left", 1, (WRONG, s))))
        self.fault(deep, (1, 0))
        deep = make_step("pair right", 1, (n, make_step("pair right", 1, (s, make_step("pair right", 1, (n, WRONG))))))
        self.fault(deep, (1, 1, 1))

    def test_the_first_of_two(self):
        n = make_axiom("n")
        both = make_step("pair right", 1, (WRONG, WRONG))
        self.fault(both, (0,))
        self.fault(changed(both, 4, 1), ())
        wide = make_step("pair right", 2, (make_step("pair right", 1, (n, WRONG)), WRONG))
        self.fault(wide, (0, 1))
        self.fault(changed(wide, 3, 1), ())

    def test_sequents_beyond_the_bounds(self):
        wide = stub(("n",) * 41, "n")
        self.fault(wide, ())
        self.fault(stub(("n",) * 40, ("/", "n", "n"), (wide,)), ())
        over = ("over right", ("n",) * 40, ("/", "n", "n"), 0, 0, (wide,))
        self.fault(over, ())

    def test_new_sequents_beyond_the_bounds(self):
        """The step is told as it would be, if there were no bounds."""
        half, more = stub(("n",) * 20, "n"), stub(("n",) * 21, "n")
        self.fault(("pair right", ("n",) * 41, ("*", "n", "n"), 20, 0, (half, more)), ())
        wide, wider = identity(bush(20)), identity(bush(21))
        pair = ("*", bush(20), bush(21))
        self.fault(make_step("pair right", 1, (wide, wide)), None)
        self.fault(("pair right", (bush(20), bush(21)), pair, 1, 0, (wide, wider)), ())

    def test_cuts(self):
        cut = cut_of(VP)
        for words in ({}, {"allow_cuts": False}):
            self.fault(cut, (), **words)
            self.fault(make_step("under left", 1, (cut_of("n"), identity("s"))), (0,), **words)
            self.fault(make_step("under left", 1, (identity("n"), cut_of("s"))), (1,), **words)
        self.fault(cut, None, allow_cuts=True)
        self.fault(make_step("under left", 1, (cut_of("n"), cut_of("s"))), None, allow_cuts=True)

    def test_wrong_cuts(self):
        cut = cut_of("n")
        for wrong in (changed(cut, 3, 1), changed(cut, 4, 0), changed(cut, 2, "s"), changed(cut, 1, ("n", "n")),
                      changed(cut, 5, (make_axiom("s"), make_axiom("n")))):
            self.fault(wrong, ())
            self.fault(wrong, (), allow_cuts=True)
        late = make_step("cut", 0, (make_axiom("n"), WRONG))
        self.fault(late, ())
        self.fault(late, (1,), allow_cuts=True)

    def test_two_hundred_steps(self):
        deep = make_axiom("n")
        for _ in range(99):
            deep = make_step("cut", 0, (make_axiom("n"), deep))
        self.fault(deep, None, allow_cuts=True)
        self.fault(deep, ())
        wrong = WRONG
        for _ in range(99):
            wrong = make_step("cut", 0, (make_axiom("n"), wrong))
        self.fault(wrong, (1,) * 99, allow_cuts=True)
        self.same(count_steps(wrong), 199)


class WalkTest(Case):

    def test_order(self):
        a, b, c, d = [make_axiom(atom) for atom in "abcd"]
        left = make_step("pair right", 1, (a, b))
        right = make_step("pair right", 1, (c, d))
        whole = make_step("pair right", 2, (left, right))
        self.same(list(walk_steps(whole)), [
            ((), whole), ((0,), left), ((0, 0), a), ((0, 1), b), ((1,), right), ((1, 0), c), ((1, 1), d)])

    def test_parts_of_any_number(self):
        n = make_axiom("n")
        whole = stub((), "n", (stub(("s",), "s", (n, n, n)), n, stub((), "x")))
        self.same([path for path, _ in walk_steps(whole)], [(), (0,), (0, 0), (0, 1), (0, 2), (1,), (2,)])
        self.same(count_steps(whole), 7)

    def test_a_generator(self):
        steps = walk_steps(make_axiom("n"))
        self.same(next(steps), ((), make_axiom("n")))
        with self.assertRaises(StopIteration):
            next(steps)

    def test_count(self):
        self.same(count_steps(make_axiom("n")), 1)
        self.same(count_steps(identity(("/", VP, "n"))), 3 * 3 - 2)
        self.same(count_steps(cut_of(VP)), 9)

    def test_cut_free(self):
        self.assertIs(is_cut_free(identity(VP)), True)
        self.assertIs(is_cut_free(cut_of("n")), False)
        self.assertIs(is_cut_free(make_step("under left", 1, (identity("n"), cut_of("s")))), False)
        self.assertIs(is_cut_free(make_step("under left", 1, (cut_of("n"), identity("s")))), False)
        self.assertIs(is_cut_free(WRONG), True)
        self.assertIs(is_cut_free(("cut", (), "n", 5, 5, ())), False)
        self.assertIs(is_cut_free(("Cut", (), "n", 5, 5, ())), True)

    def test_every_combination_of_faults(self):
        right, wrong = make_axiom("n"), WRONG
        for parts in itertools.product((right, wrong), repeat=3):
            inner = make_step("pair right", 1, parts[:2])
            whole = make_step("pair right", 2, (inner, parts[2]))
            paths = [path for path, part in zip(((0, 0), (0, 1), (1,)), parts) if part == wrong]
            self.same(first_fault(whole), paths[0] if paths else None)
