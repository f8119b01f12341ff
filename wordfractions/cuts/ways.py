"""Ways from a derivation to another one, and ready derivations."""

from wordfractions.cuts.identity import identity
from wordfractions.cuts.joining import join_at
from wordfractions.errors import FitError
from wordfractions.sequents.faults import is_cut_free
from wordfractions.sequents.rules import make_step


def _require_cut_free(derivation):
    if not is_cut_free(derivation):
        raise FitError("the derivation has a cut")


def _require_sign(kind, sign):
    if isinstance(kind, str) or kind[0] != sign:
        raise FitError(f"no kind with the sign {sign}")


def to_over(derivation):
    """Lead G, B => A to G => A / B."""
    _require_cut_free(derivation)
    return make_step("over right", 0, (derivation,))


def from_over(derivation):
    """Lead G => A / B to G, B => A."""
    _require_cut_free(derivation)
    _require_sign(derivation[2], "/")
    _, result, argument = derivation[2]
    return join_at(derivation, apply_over(result, argument), 0)


def to_under(derivation):
    """Lead B, G => A to G => B > A."""
    _require_cut_free(derivation)
    return make_step("under right", 0, (derivation,))


def from_under(derivation):
    """Lead G => B > A to B, G => A."""
    _require_cut_free(derivation)
    _require_sign(derivation[2], ">")
    _, argument, result = derivation[2]
    return join_at(derivation, apply_under(result, argument), 1)


def to_pair(derivation, at):
    """Lead G, A, B, G' => C to G, A * B, G' => C, where A stands at this place."""
    _require_cut_free(derivation)
    return make_step("pair left", at, (derivation,))


def from_pair(derivation, at):
    """Lead G, A * B, G' => C to G, A, B, G' => C, where the pair stands at this place."""
    _require_cut_free(derivation)
    premises = derivation[1]
    if not 0 <= at < len(premises):
        raise FitError("no premise at this place")
    _require_sign(premises[at], "*")
    _, first, second = premises[at]
    return join_at(pair_up(first, second), derivation, at)


def apply_over(a, b):
    """Derive a / b, b => a."""
    return make_step("over left", 0, (identity(b), identity(a)))


def apply_under(a, b):
    """Derive b, b > a => a."""
    return make_step("under left", 1, (identity(b), identity(a)))


def pair_up(a, b):
    """Derive a, b => a * b."""
    return make_step("pair right", 1, (identity(a), identity(b)))


def lift_over(a, b):
    """Derive a => b / (a > b)."""
    return to_over(apply_under(b, a))


def lift_under(a, b):
    """Derive a => (b / a) > b."""
    return to_under(apply_over(b, a))


def chain_over(a, b, c):
    """Derive a / b, b / c => a / c."""
    return to_over(make_step("over left", 0, (apply_over(b, c), identity(a))))


def chain_under(a, b, c):
    """Derive a > b, b > c => a > c."""
    return to_under(make_step("under left", 2, (apply_under(b, a), identity(c))))


def divide_over(a, b, c):
    """Derive a / b => (a / c) / (b / c)."""
    return to_over(chain_over(a, b, c))


def divide_under(a, b, c):
    """Derive b > a => (c > b) > (c > a)."""
    return to_under(chain_under(c, b, a))


def curry_over(a, b, c):
    """Derive a / (b * c) => (a / c) / b."""
    return to_over(to_over(make_step("over left", 0, (pair_up(b, c), identity(a)))))


def uncurry_over(a, b, c):
    """Derive (a / c) / b => a / (b * c)."""
    return to_over(to_pair(make_step("over left", 0, (identity(b), apply_over(a, c))), 1))


def curry_under(a, b, c):
    """Derive (b * c) > a => c > (b > a)."""
    return to_under(to_under(make_step("under left", 2, (pair_up(b, c), identity(a)))))


def uncurry_under(a, b, c):
    """Derive c > (b > a) => (b * c) > a."""
    return to_under(to_pair(make_step("under left", 2, (identity(c), apply_under(a, b))), 0))


def swap_over(a, b, c):
    """Derive (b > a) / c => b > (a / c)."""
    return to_under(to_over(make_step("over left", 1, (identity(c), apply_under(a, b)))))


def swap_under(a, b, c):
    """Derive b > (a / c) => (b > a) / c."""
    return to_over(to_under(make_step("under left", 1, (identity(b), apply_over(a, c)))))


def regroup_left(a, b, c):
    """Derive a * (b * c) => (a * b) * c."""
    return to_pair(to_pair(make_step("pair right", 2, (pair_up(a, b), identity(c))), 1), 0)


def regroup_right(a, b, c):
    """Derive (a * b) * c => a * (b * c)."""
    return to_pair(to_pair(make_step("pair right", 1, (identity(a), pair_up(b, c))), 0), 0)
