"""[4] to [7]: atoms, kinds, size, signs, written order, mirror, substitution."""

from tests.helper import Case, bush, comb
from wordfractions.errors import SizeError
from wordfractions.kinds.order import kinds_up_to
from wordfractions.kinds.shape import (
    atom_number, atoms_of, base_of, count_of, is_kind, mirror_kind, signs_of, size_of, substitute_kind,
)

VP = (">", "n", "s")
SEES = ("/", VP, "n")


class IsKindTest(Case):

    def kind(self, thing):
        self.assertIs(is_kind(thing), True, thing)

    def no_kind(self, thing):
        self.assertIs(is_kind(thing), False, thing)

    def test_interface_example(self):
        self.assertEqual(
            (is_kind(("/", "s", "n.12")), is_kind(["/", "s", "n"]), is_kind("n.07")), (True, False, False))

    def test_atoms(self):
        for atom in ("n", "s", "z", "a0", "n9", "abcdefgh", "a2345678", "a1b2c3d4", "n.1", "n.9", "n.10",
                     "n.999999", "abcdefgh.999999", "a0.100000"):
            self.kind(atom)

    def test_no_atoms(self):
        for text in ("", "N", "nP", "1", "1n", "_", "a_b", "a-b", " n", "n ", "n s", "abcdefghi", "a23456789",
                     "n.", ".", ".1", "n.0", "n.07", "n.00", "n.1000000", "n.0000001", "n.1.2", "n..1", "n.-1",
                     "n.+1", "n.1 ", "n. 1", "n.a", "n.1a", "N.1", "abcdefghi.1", "n\n", "n\t", "n,", "(n)",
                     "n / s", "/", ">", "*", "\u00e9", "n\u00e9", "n.\u0661", "\u00b2", "n\u00b2", "n.\u00b2"):
            self.no_kind(text)

    def test_tuples(self):
        for sign in ("/", ">", "*"):
            self.kind((sign, "n", "s"))
            self.kind((sign, ("*", "n", "n"), (sign, "s.3", "s")))

    def test_no_tuples(self):
        for thing in ((), ("n",), ("/",), ("/", "n"), ("/", "n", "s", "s"), ("n", "/", "s"), ("n", "n", "n"),
                      ("<", "n", "s"), ("", "n", "s"), ("//", "n", "s"), (("/",), "n", "s"), (None, "n", "s"),
                      (0, "n", "s"), (["/"], "n", "s"), ("/", "n", "S"), ("/", "N", "s"), ("/", (), "s"),
                      ("/", "n", ()), ("/", "n", None), ("/", 1, "n"), ("/", ["n"], "s"), ("/", "n", ["/", "s", "n"]),
                      ("/", "n", ("/", "n", ("/", "n"))), ("*", ("/", "n", "n.0"), "n"), ({}, "n", "s"),
                      (b"/", "n", "s"), ("/", b"n", "s")):
            self.no_kind(thing)

    def test_other_things(self):
        for thing in (None, True, False, 0, 1, -1, 10 ** 30, 1.5, [], ["n"], ["/", "s", "n"], {}, {"n": "n"},
                      {"/": 1, "n": 2, "s": 3}, set(), frozenset(), b"n", object(), is_kind, str, range(3)):
            self.no_kind(thing)

    def test_forty_atoms_and_one_more(self):
        for sign in ("/", ">", "*"):
            for left in (True, False):
                self.kind(comb(40, sign=sign, left=left))
                self.no_kind(comb(41, sign=sign, left=left))
            self.kind(bush(40, sign=sign))
            self.no_kind(bush(41, sign=sign))

    def test_a_wrong_part_beside_a_large_one(self):
        for part in ((), ("n",), ("x", "n", "n"), "N", "n.0", None, 7, ["/", "n", "n"], ("/", "n", ()), comb(41)):
            for size in (1, 2, 3, 4, 38, 39):
                self.no_kind(("/", part, comb(size)))
                self.no_kind(("*", bush(size), part))

    def test_things_that_cannot_be_compared(self):
        class Odd:
            def __eq__(self, other):
                raise TypeError("not to be compared")

        self.no_kind(Odd())
        self.no_kind((Odd(), "n", "n"))
        self.no_kind(("/", Odd(), "n"))
        self.no_kind(("/", "n", (Odd(), Odd(), Odd())))

    def test_deep_and_wide_things(self):
        deep = "n"
        for _ in range(59):
            deep = ("/", deep, "n")
        self.no_kind(deep)
        deep = ()
        for _ in range(59):
            deep = (deep,)
        self.no_kind(deep)
        self.no_kind(["n"] * 1000)
        self.no_kind(("n",) * 1000)
        self.no_kind(bush(300))

    def test_a_wrong_atom_anywhere(self):
        for place in range(40):
            kind = comb(40)
            for _ in range(place):
                kind = kind[1] if isinstance(kind, tuple) else kind
            self.kind(kind)
            self.no_kind(("/", kind, "N"))
            self.no_kind(("/", "n.0", kind))


class PartsTest(Case):

    def test_size_and_signs(self):
        for kind, size in (("n", 1), ("n.12", 1), (VP, 2), (SEES, 3), (("*", SEES, SEES), 6), (comb(40), 40)):
            self.same(size_of(kind), size)
            self.same(signs_of(kind), size - 1)

    def test_written_order(self):
        self.same(atoms_of("n.4"), ("n.4",))
        self.same(atoms_of(SEES), ("n", "s", "n"))
        kind = ("*", (">", "a", ("/", "b", "c")), ("/", (">", "d", "e"), "a"))
        self.same(atoms_of(kind), ("a", "b", "c", "d", "e", "a"))

    def test_count_takes_the_very_atom(self):
        kind = ("*", ("/", "n", "n.1"), (">", "n", ("*", "n.12", "nn")))
        self.same([count_of(kind, atom) for atom in ("n", "n.1", "n.12", "n.2", "nn", "s")], [2, 1, 1, 0, 1, 0])
        self.same(count_of("n", "n"), 1)
        self.same(count_of("n.1", "n"), 0)

    def test_base_and_number(self):
        for atom, base, number in (("n", "n", 0), ("n.1", "n", 1), ("n.12", "n", 12), ("abcdefgh.999999", "abcdefgh",
                                   999999), ("a1", "a1", 0), ("a1.10", "a1", 10)):
            self.same(base_of(atom), base)
            self.same(atom_number(atom), number)


class MirrorTest(Case):

    def test_interface_example(self):
        self.same(mirror_kind(("/", (">", "n", "s"), "n")), (">", "n", ("/", "s", "n")))

    def test_each_sign(self):
        self.same(mirror_kind("n.3"), "n.3")
        self.same(mirror_kind(("/", "a", "b")), (">", "b", "a"))
        self.same(mirror_kind((">", "a", "b")), ("/", "b", "a"))
        self.same(mirror_kind(("*", "a", "b")), ("*", "b", "a"))

    def test_within(self):
        kind = ("*", ("/", "a", ("*", "b", "c")), (">", "d", ("/", "e", "f.1")))
        self.same(mirror_kind(kind), ("*", ("/", (">", "f.1", "e"), "d"), (">", ("*", "c", "b"), "a")))

    def test_twice_gives_the_kind(self):
        for kind in kinds_up_to(("a", "b"), 3):
            self.same(mirror_kind(mirror_kind(kind)), kind)
            self.same(atoms_of(mirror_kind(kind)), atoms_of(kind)[::-1])


class SubstituteTest(Case):

    def test_replaces_everywhere(self):
        self.same(substitute_kind("n", "n", VP), VP)
        self.same(substitute_kind("s", "n", VP), "s")
        self.same(substitute_kind(SEES, "n", ("*", "a", "b")), ("/", (">", ("*", "a", "b"), "s"), ("*", "a", "b")))

    def test_only_the_very_atom(self):
        kind = ("*", "n", ("/", "n.1", "n.12"))
        self.same(substitute_kind(kind, "n", "x"), ("*", "x", ("/", "n.1", "n.12")))
        self.same(substitute_kind(kind, "n.1", "x"), ("*", "n", ("/", "x", "n.12")))
        self.same(substitute_kind(kind, "n.2", "x"), kind)

    def test_the_atom_in_the_other_kind_stays(self):
        self.same(substitute_kind(("/", "n", "s"), "n", ("/", "n", "n")), ("/", ("/", "n", "n"), "s"))

    def test_bound(self):
        two = ("*", "s", "s")
        self.same(size_of(substitute_kind(bush(20), "n", two)), 40)
        self.refuses(SizeError, substitute_kind, ("*", bush(20), "n"), "n", two)
        self.same(substitute_kind(bush(40), "m", bush(40)), bush(40))
        self.same(substitute_kind(comb(40), "n", "s"), comb(40, "s"))
        self.same(substitute_kind("n", "n", comb(40)), comb(40))
        self.same(size_of(substitute_kind(("/", "n", "s"), "n", comb(39))), 40)
        self.refuses(SizeError, substitute_kind, ("/", "n", "s"), "n", comb(40))
        self.refuses(SizeError, substitute_kind, comb(40), "n", two)
        self.refuses(SizeError, substitute_kind, comb(40), "n", comb(40))
