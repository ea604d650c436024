"""Integers as the package understands them, and their common divisors."""

from math import gcd

MAX_DIGITS = 300
# A bound to compare with: Python refuses to write out numbers of very many digits.
SHORT_BOUND = (10 ** 60) ** 5


def is_integer(value):
    """Tell whether any object is an integer; True and False are none."""
    return isinstance(value, int) and not isinstance(value, bool)


def is_short(value):
    """Tell whether any object is an integer of as many digits as a program may contain."""
    return is_integer(value) and -SHORT_BOUND < value < SHORT_BOUND


def common_divisor(numbers):
    """Return the greatest common divisor of the numbers, 0 if all of them are 0."""
    divisor = 0
    for number in numbers:
        divisor = gcd(divisor, number)
        if divisor == 1:
            return 1
    return divisor
