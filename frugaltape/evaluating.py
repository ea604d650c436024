"""The values of expressions in a state, and what goes wrong where there is none."""

from frugaltape.errors import Inexact, NoInput, TooLarge, ZeroDivisor
from frugaltape.integers import is_short


def sum_value(value, state, address):
    """Return the value of a sum in a state, a dict of all variables; the address is for errors."""
    _, constant, terms, divisor = value
    total = constant
    for factor, name in terms:
        total = total + factor * state[name]
    if total % divisor != 0:
        raise Inexact(address)
    return total // divisor


def pair_value(word, one, other, address):
    """Return the value of a free expression that is made of two sums with these values."""
    if word == "product":
        if not is_short(one) or not is_short(other):
            raise TooLarge(address)
        return one * other
    if word == "less":
        return int(one < other)
    if word == "same":
        return int(one == other)
    if other == 0:
        raise ZeroDivisor(address)
    return one // other if word == "quotient" else one % other


def expression_value(expression, state, inputs, read_count, address):
    """Return the value of an expression in a state, when so many of the inputs were read."""
    word = expression[0]
    if word == "sum":
        return sum_value(expression, state, address)
    if word == "read":
        if read_count == len(inputs):
            raise NoInput(address)
        return inputs[read_count]
    one = sum_value(expression[1], state, address)
    other = sum_value(expression[2], state, address)
    return pair_value(word, one, other, address)
