"""Names and expressions: which objects are some."""

from frugaltape.integers import common_divisor, is_integer, is_short

WORDS = (
    "given", "var", "proc", "main", "end", "set", "swap", "print", "if", "else", "while", "repeat",
    "call", "read", "product", "quotient", "remainder", "less", "same",
)
MAX_LETTERS = 8
# The free expressions that are made of two sums.
PAIRS = ("product", "quotient", "remainder", "less", "same")


def is_name(candidate):
    """Tell whether any object is a name."""
    if not isinstance(candidate, str) or not 1 <= len(candidate) <= MAX_LETTERS:
        return False
    return all(["a" <= letter <= "z" for letter in candidate]) and candidate not in WORDS


def are_names(candidate):
    """Tell whether any object is a tuple of different names."""
    if not isinstance(candidate, tuple) or not all([is_name(name) for name in candidate]):
        return False
    return len(set(candidate)) == len(candidate)


def is_term(candidate, names):
    """Tell whether any object is a term over the names, with a factor of any size."""
    if not isinstance(candidate, tuple) or len(candidate) != 2:
        return False
    factor, name = candidate
    return is_integer(factor) and factor != 0 and name in names


def are_terms(candidate, names):
    """Tell whether any object is a tuple of terms over the names, as a sum has them."""
    if not isinstance(candidate, tuple) or not all([is_term(term, names) for term in candidate]):
        return False
    written = [name for _, name in candidate]
    return written == sorted(set(written))


def sum_numbers(value):
    """Return the list of all numbers in a sum."""
    _, constant, terms, divisor = value
    return [constant, divisor] + [factor for factor, _ in terms]


def is_long_sum(candidate, names):
    """Tell whether any object is a sum over the names, with numbers of any size."""
    if not isinstance(candidate, tuple) or len(candidate) != 4 or candidate[0] != "sum":
        return False
    _, constant, terms, divisor = candidate
    if not is_integer(constant) or not are_terms(terms, names) or not is_integer(divisor) or divisor < 1:
        return False
    return common_divisor(sum_numbers(candidate)) == 1


def is_sum(candidate, names):
    """Tell whether any object is a sum over the names, as programs may contain it."""
    return is_long_sum(candidate, names) and all([is_short(number) for number in sum_numbers(candidate)])


def is_expression(candidate, names):
    """Tell whether any object is an expression over the names."""
    if is_sum(candidate, names) or candidate == ("read",):
        return True
    if not isinstance(candidate, tuple) or len(candidate) != 3 or candidate[0] not in PAIRS:
        return False
    return is_sum(candidate[1], names) and is_sum(candidate[2], names)
