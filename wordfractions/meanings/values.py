"""Values of kinds in a world."""

from wordfractions.errors import FitError, SizeError
from wordfractions.kinds.shape import base_of

MOST_VALUES = 10 ** 12
# Two to this power is above the bound.
LARGE_EXPONENT = 40


def count_values(kind, world):
    """Return the number of values of the kind."""
    if isinstance(kind, str):
        return world.get(base_of(kind), 1)
    sign, first, second = kind
    first_count = count_values(first, world)
    second_count = count_values(second, world)
    if sign == "*":
        many = first_count * second_count
    elif sign == "/":
        many = _power(first_count, second_count)
    else:
        many = _power(second_count, first_count)
    if many > MOST_VALUES:
        raise SizeError("a kind with too many values")
    return many


def _power(base, exponent):
    """Return the power, or some number above the bound instead of a larger one."""
    if base == 1:
        return 1
    if exponent >= LARGE_EXPONENT:
        return MOST_VALUES + 1
    power = 1
    for _ in range(exponent):
        power = power * base
    return power


def result_and_argument(kind):
    """Return the result and the argument of the fraction."""
    if isinstance(kind, str) or kind[0] == "*":
        raise FitError("the kind is no fraction")
    sign, first, second = kind
    return (first, second) if sign == "/" else (second, first)


def digit_at(number, base, place):
    """Return the digit of the number at this place, 0 being the lowest."""
    if base == 1:
        # There is no digit but 0, and the place may be very large.
        return 0
    left = number
    for _ in range(place):
        left = left // base
    return left % base


def number_of_digits(digits, base):
    """Return the number with these digits, the lowest first."""
    number = 0
    for digit in reversed(digits):
        number = number * base + digit
    return number


def apply_value(kind, world, value, argument):
    """Return the entry at the argument of the table that the value stands for."""
    result, _ = result_and_argument(kind)
    return digit_at(value, count_values(result, world), argument)


def build_value(kind, world, entries):
    """Return the value of the fraction whose table has these entries."""
    result, argument = result_and_argument(kind)
    if len(entries) != count_values(argument, world):
        raise FitError("not as many entries as values of the argument")
    return number_of_digits(entries, count_values(result, world))


def _count_seconds(kind, world):
    """Return the number of values of the pair's second part."""
    if isinstance(kind, str) or kind[0] != "*":
        raise FitError("the kind is no pair")
    return count_values(kind[2], world)


def pair_value(kind, world, first, second):
    """Return the pair of the two values."""
    return first * _count_seconds(kind, world) + second


def split_value(kind, world, value):
    """Return the two values whose pair this is."""
    return divmod(value, _count_seconds(kind, world))
