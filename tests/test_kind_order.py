"""[10]: the order of kinds, and how many there are."""

import functools
import itertools
import random

from tests.helper import Case, bush, comb
from wordfractions.errors import FitError, SizeError
from wordfractions.kinds.order import kind_before, kinds_up_to, number_of_kinds


def atoms_in(kind):
    return 1 if isinstance(kind, str) else atoms_in(kind[1]) + atoms_in(kind[2])


def compare(first, second):
    """The order as [10] tells it, point by point: -1, 0 or 1."""
    if first == second:
        return 0
    if atoms_in(first) != atoms_in(second):
        return -1 if atoms_in(first) < atoms_in(second) else 1
    if isinstance(first, str):
        one, two = [(atom.split(".") + ["0"])[:2] for atom in (first, second)]
        if one[0] != two[0]:
            return -1 if one[0] < two[0] else 1
        return -1 if int(one[1]) < int(two[1]) else 1
    if first[0] != second[0]:
        return -1 if "/>*".index(first[0]) < "/>*".index(second[0]) else 1
    return compare(first[1], second[1]) or compare(first[2], second[2])


def all_kinds(atoms, size):
    """All kinds of a size, made by splitting rows of atoms in all ways."""
    if size == 1:
        return list(atoms)
    found = []
    for ahead in range(1, size):
        for first, second in itertools.product(all_kinds(atoms, ahead), all_kinds(atoms, size - ahead)):
            found.extend([("*", first, second), (">", first, second), ("/", first, second)])
    return found


class BeforeTest(Case):

    def in_order(self, *kinds):
        for i, first in enumerate(kinds):
            for j, second in enumerate(kinds):
                self.assertIs(kind_before(first, second), i < j, (first, second))

    def test_sizes_first(self):
        self.in_order("z.999999", ("*", "z", "z"), ("/", "a", ("/", "a", "a")), comb(4, "z"), comb(40), )

    def test_atoms(self):
        self.in_order("a", "a.1", "a.2", "a.10", "a0", "a1", "a10", "a2", "ab", "b", "b.1", "z")

    def test_bases_are_compared_as_texts(self):
        self.in_order("n", "n.2", "n.10", "n.999999", "n1", "n10", "n2", "na", "nn", "o")

    def test_signs(self):
        self.in_order(("/", "z", "z"), (">", "a", "a"), (">", "b", "a"), ("*", "a", "a"))

    def test_parts(self):
        self.in_order(
            ("/", "a", ("*", "b", "b")), ("/", "b", ("/", "a", "a")), ("/", "b", ("/", "a", "a.1")),
            ("/", ("/", "a", "a"), "a"), ("/", ("/", "a", "a"), "b"), ("/", (">", "a", "a"), "a"),
            ("/", ("*", "a", "a"), "a"), (">", "a", ("/", "a", "a")))

    def test_equal_kinds(self):
        for kind in ("n", "n.4", ("/", "n", "s"), comb(40)):
            self.assertIs(kind_before(kind, kind), False)

    def test_against_another_comparison(self):
        chance = random.Random(7)

        def any_kind(size):
            if size == 1:
                return chance.choice(("a", "b", "a.1", "a.2", "a.10", "a1"))
            ahead = chance.randrange(1, size)
            return (chance.choice("/>*"), any_kind(ahead), any_kind(size - ahead))

        for _ in range(4000):
            size = chance.randrange(1, 6)
            first, second = any_kind(size), any_kind(size)
            self.assertIs(kind_before(first, second), compare(first, second) < 0, (first, second))


class NumberTest(Case):

    def test_against_lists(self):
        for many in range(1, 7):
            for size in range(1, 5 if many < 4 else 4):
                self.same(number_of_kinds(many, size), len(set(all_kinds("abcdef"[:many], size))))
        self.same(number_of_kinds(1, 5), 14 * 81)

    def test_the_formula(self):
        counts = [1]
        for j in range(40):
            counts.append(sum(counts[i] * counts[j - i] for i in range(j + 1)))
        self.assertEqual(counts[:5], [1, 1, 2, 5, 14])
        for many in range(1, 7):
            for size in range(1, 41):
                self.same(number_of_kinds(many, size), 3 ** (size - 1) * counts[size - 1] * many ** size)


class KindsUpToTest(Case):

    def test_interface_example(self):
        self.same(kinds_up_to(("n",), 2), ("n", ("/", "n", "n"), (">", "n", "n"), ("*", "n", "n")))

    def test_against_sorted_lists(self):
        for atoms, most in (("n", 1), ("n", 5), ("ab", 3), ("abc", 3), ("abcdef", 2), ("abcdef", 1)):
            wanted = [kind for size in range(1, most + 1) for kind in all_kinds(atoms, size)]
            wanted = sorted(wanted, key=functools.cmp_to_key(compare))
            self.same(kinds_up_to(tuple(atoms), most), tuple(wanted))

    def test_atoms_in_any_order(self):
        for atoms in itertools.permutations(("a1", "b", "a")):
            self.same(kinds_up_to(atoms, 2), kinds_up_to(("a", "a1", "b"), 2))

    def test_what_are_no_atoms(self):
        for atoms in ((), ["n"], "n", None, True, 1, {}, {"n": 1}, ("n", "n"), ("a", "b", "a"), ("n.1",), ("a", "b.2"),
                      ("N",), ("",), (1,), (None,), (True,), (["n"],), (("n",),), (("/", "a", "b"),), ("abcdefghi",),
                      ("a", "b", "c", "d", "e", "f", "g"), ("a", ["b"], {}), ("n",) * 7):
            self.refuses(FitError, kinds_up_to, atoms, 2)
            self.refuses(FitError, kinds_up_to, atoms, 10 ** 30)

    def test_what_is_no_size(self):
        for most in (0, -1, -10 ** 30, True, False, None, "2", 2.0, (2,), [2], {}, ()):
            self.refuses(FitError, kinds_up_to, ("n",), most)
            self.refuses(FitError, kinds_up_to, ("a", "b", "c", "d", "e", "f"), most)

    def test_too_many(self):
        self.same(len(kinds_up_to(("n",), 5)), 1 + 3 + 18 + 135 + 1134)
        for most in (6, 7, 40, 41, 1000, 10 ** 30):
            self.refuses(SizeError, kinds_up_to, ("n",), most)
        self.same(len(kinds_up_to(("a", "b"), 3)), 2 + 12 + 144)
        self.refuses(SizeError, kinds_up_to, ("a", "b"), 4)
        self.same(len(kinds_up_to(("a", "b", "c", "d"), 3)), 4 + 48 + 18 * 64)
        self.refuses(SizeError, kinds_up_to, ("a", "b", "c", "d", "e"), 3)
        self.same(len(kinds_up_to(("a", "b", "c", "d", "e", "f"), 2)), 6 + 108)
        self.refuses(SizeError, kinds_up_to, ("a", "b", "c", "d", "e", "f"), 10 ** 30)

    def test_order_of_large_kinds(self):
        self.assertIs(kind_before(bush(40), bush(40, sign="/")), False)
        self.assertIs(kind_before(bush(40, sign=">"), bush(40)), True)
