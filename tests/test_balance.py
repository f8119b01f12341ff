"""[11]: balances."""

import itertools
import random

from tests.helper import Case, bush, comb
from wordfractions.kinds.balance import Balance, multiply
from wordfractions.kinds.order import kinds_up_to
from wordfractions.kinds.shape import size_of

LETTERS = (("a", 1), ("a", -1), ("b", 1), ("b", -1), ("a.1", 1), ("a.1", -1))


def opposite(letters):
    return tuple((atom, -sign) for atom, sign in reversed(letters))


def strike_out(letters, from_the_right=False):
    """Strike out neighbours one pair at a time."""
    letters = list(letters)
    while True:
        pairs = [k for k in range(len(letters) - 1)
                 if letters[k][0] == letters[k + 1][0] and letters[k][1] == -letters[k + 1][1]]
        if not pairs:
            return tuple(letters)
        at = pairs[-1] if from_the_right else pairs[0]
        del letters[at:at + 2]


def letters_as_told(kind):
    if isinstance(kind, str):
        return ((kind, 1),)
    sign, first, second = kind
    first, second = letters_as_told(first), letters_as_told(second)
    if sign == "/":
        return strike_out(first + opposite(second))
    if sign == ">":
        return strike_out(opposite(first) + second)
    return strike_out(first + second)


class BalanceTest(Case):

    def test_interface_examples(self):
        self.same(Balance.of(("/", (">", "n", "s"), "n")).letters, (("n", -1), ("s", 1), ("n", -1)))
        self.same((Balance.of("n") * Balance.of((">", "n", "s"))).letters, (("s", 1),))

    def test_empty(self):
        self.same(Balance().letters, ())
        self.same(Balance(()).letters, ())
        self.same(len(Balance()), 0)
        self.same((-Balance()).letters, ())
        self.assertTrue(Balance() == Balance.of(("/", "n", "n")))

    def test_rows_that_are_not_reduced(self):
        self.same(Balance((("n", 1), ("n", -1))).letters, ())
        self.same(Balance((("n", -1), ("n", 1), ("s", 1))).letters, (("s", 1),))
        self.same(Balance((("a", 1), ("b", -1), ("b", 1), ("a", -1), ("c", 1))).letters, (("c", 1),))
        self.same(Balance((("n", 1), ("n", 1), ("n", -1))).letters, (("n", 1),))
        self.same(Balance((("n", 1), ("n", 1))).letters, (("n", 1), ("n", 1)))

    def test_numbered_atoms_are_unlike(self):
        letters = (("n", 1), ("n.1", -1), ("n.1", -1), ("n.2", 1))
        self.same(Balance(letters).letters, letters)
        self.same(Balance((("n.1", 1), ("n.1", -1))).letters, ())

    def test_all_short_rows(self):
        for length in range(6):
            for letters in itertools.product(LETTERS[:4] if length > 4 else LETTERS, repeat=length):
                balance = Balance(letters)
                self.assertEqual(balance.letters, strike_out(letters))
                self.assertEqual(balance.letters, strike_out(letters, True))
                self.assertEqual((-balance).letters, opposite(balance.letters))
                self.assertEqual(len(balance), len(balance.letters))
                self.assertEqual((balance * -balance).letters, ())

    def test_products(self):
        chance = random.Random(3)
        for _ in range(300):
            rows = [tuple(chance.choice(LETTERS) for _ in range(chance.randrange(5))) for _ in range(4)]
            balances = [Balance(row) for row in rows]
            wanted = strike_out(tuple(letter for row in rows for letter in row))
            self.same(multiply(*balances).letters, wanted)
            a, b, c, d = balances
            self.same((a * b * c * d).letters, wanted)
            self.same((a * ((b * c) * d)).letters, wanted)
            self.same([balance.letters for balance in balances], [strike_out(row) for row in rows])

    def test_multiply_of_none_and_one(self):
        self.assertIsInstance(multiply(), Balance)
        self.same(multiply().letters, ())
        self.same(multiply(Balance.of("n")).letters, (("n", 1),))

    def test_of_kinds(self):
        for kind, letters in (("n", (("n", 1),)), ("n.7", (("n.7", 1),)), (("/", "a", "b"), (("a", 1), ("b", -1))),
                              ((">", "b", "a"), (("b", -1), ("a", 1))), (("*", "a", "b"), (("a", 1), ("b", 1))),
                              (("/", "a", ("/", "b", "c")), (("a", 1), ("c", 1), ("b", -1))),
                              (("/", "a", (">", "b", "c")), (("a", 1), ("c", -1), ("b", 1))),
                              ((">", ("*", "b", "c"), "a"), (("c", -1), ("b", -1), ("a", 1))),
                              (("*", "a", (">", "a", "b")), (("b", 1),))):
            self.same(Balance.of(kind).letters, letters)

    def test_of_all_small_kinds(self):
        for kind in kinds_up_to(("a", "b"), 3) + kinds_up_to(("n",), 5) + (comb(40), bush(40, sign=">")):
            self.same(Balance.of(kind).letters, letters_as_told(kind))
            self.assertLessEqual(len(Balance.of(kind)), size_of(kind))

    def test_equality(self):
        a = Balance.of("a")
        self.assertIs(a == Balance((("b", 1), ("b", -1), ("a", 1))), True)
        self.assertIs(a == Balance.of("b"), False)
        self.assertIs(a == -a, False)
        self.assertIs(a == Balance.of("a.1"), False)
        self.assertIs(a != Balance.of("a"), False)
        self.assertIs(a != Balance.of("b"), True)

    def test_equality_with_what_is_no_balance(self):
        a = Balance.of("a")
        for thing in ((("a", 1),), [("a", 1)], "a", None, True, 1, (), {}):
            self.assertIs(a == thing, False)
            self.assertIs(a != thing, True)
        self.assertIs(Balance() == (), False)

    def test_methods_stand_in_the_class(self):
        for name in ("letters", "__mul__", "__neg__", "__len__", "__eq__", "of"):
            self.assertIn(name, vars(Balance))
        self.assertIsInstance(vars(Balance)["of"], staticmethod)
        with self.assertRaises(AttributeError):
            Balance().letters = ()
