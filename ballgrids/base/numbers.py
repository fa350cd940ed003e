"""Integers and ratios [0.1], [1.3]."""

from math import gcd

from ballgrids.errors import InvalidNumber, InvalidOperation

MAX_NUMBERS = 100
TOO_LONG = 10 ** 60


def is_whole(value):
    """Whether the value is an integer of any length."""
    return isinstance(value, int) and not isinstance(value, bool)


def is_integer(value):
    """Whether the value is an integer of at most sixty digits."""
    return is_whole(value) and -TOO_LONG < value < TOO_LONG


def are_integers(value, least, most):
    """Whether the value is a tuple of so many integers of at most sixty digits."""
    if not isinstance(value, tuple) or not least <= len(value) <= most:
        return False
    # `is_integer` is written out, as so many numbers are asked here.
    return all([
        isinstance(number, int) and not isinstance(number, bool) and -TOO_LONG < number < TOO_LONG for number in value
    ])


def is_ratio(value):
    """Whether the value is a ratio of two integers of at most sixty digits."""
    if not are_integers(value, 2, 2):
        return False
    return value[1] > 0 and divisor_of(value) == 1


def divisor_of(numbers):
    """The greatest integer that divides all of these integers of any length."""
    found = 0
    for number in numbers:
        found = gcd(found, number)
        if found == 1:
            return 1
    return found


def ratio_of(top, bottom):
    """The ratio of two integers of any length, the second one not 0."""
    divisor = divisor_of((top, bottom))
    if bottom < 0:
        divisor = -divisor
    return (top // divisor, bottom // divisor)


def power(base, exponent):
    """The base as a factor so many times."""
    made = 1
    for _ in range(exponent):
        made = made * base
    return made


def common_divisor(numbers):
    """The greatest integer that divides all integers of a tuple."""
    if not are_integers(numbers, 1, MAX_NUMBERS):
        raise InvalidOperation("the numbers must be a tuple of 1 to 100 integers")
    return divisor_of(numbers)


def lowest(top, bottom):
    """The ratio that stands for the quotient of two integers."""
    if not is_integer(top):
        raise InvalidNumber(top)
    if not is_integer(bottom) or bottom == 0:
        raise InvalidNumber(bottom)
    return ratio_of(top, bottom)


def need_ratios(one, other):
    """Raises the error for the first value that is no ratio."""
    for value in (one, other):
        if not is_ratio(value):
            raise InvalidNumber(value)


def compare(one, other):
    """-1, 0 or 1: the first ratio is below the second one, equal to it or above it."""
    need_ratios(one, other)
    left, right = one[0] * other[1], other[0] * one[1]
    return int(left > right) - int(left < right)


def plus(one, other):
    """The sum of two ratios."""
    need_ratios(one, other)
    return ratio_of(one[0] * other[1] + other[0] * one[1], one[1] * other[1])


def minus(one, other):
    """The difference of two ratios."""
    need_ratios(one, other)
    return ratio_of(one[0] * other[1] - other[0] * one[1], one[1] * other[1])


def times(one, other):
    """The product of two ratios."""
    need_ratios(one, other)
    return ratio_of(one[0] * other[0], one[1] * other[1])
