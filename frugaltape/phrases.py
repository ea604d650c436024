"""The texts of expressions."""

from frugaltape.expressions import PAIRS, is_sum
from frugaltape.integers import MAX_DIGITS


def format_term(factor, name):
    """Return the text of a term, with its sign if it is negative."""
    if factor == 1:
        return name
    if factor == -1:
        return f"-{name}"
    return f"{factor} * {name}"


def format_sum(value):
    """Return the text of a sum."""
    _, constant, terms, divisor = value
    parts = [format_term(factor, name) for factor, name in terms]
    if constant != 0 or not terms:
        parts.append(str(constant))
    text = " + ".join(parts).replace(" + -", " - ")
    return text if divisor == 1 else f"({text}) / {divisor}"


def format_expression(expression):
    """Return the text of an expression."""
    word = expression[0]
    if word == "sum":
        return format_sum(expression)
    if word == "read":
        return word
    return f"{word}({format_sum(expression[1])}, {format_sum(expression[2])})"


def is_numeral(text):
    """Tell whether a text consists of as many digits as a number of a program may have."""
    return len(text) <= MAX_DIGITS and text.isascii() and text.isdecimal()


def read_part(text):
    """Return a term, a constant as a pair with None, or None if the text is neither."""
    sign = -1 if text.startswith("-") else 1
    body = text.removeprefix("-")
    if is_numeral(body):
        return (sign * int(body), None)
    if " * " not in body:
        return (sign, body)
    factor, _, name = body.partition(" * ")
    return (sign * int(factor), name) if is_numeral(factor) else None


def read_sum(text):
    """Return something that is the sum of the text, if it is the text of a sum."""
    inner = text
    divisor = "1"
    if text.startswith("("):
        inner, _, divisor = text[1:].rpartition(") / ")
    parts = [read_part(part) for part in inner.replace(" - ", " + -").split(" + ")]
    if None in parts or not is_numeral(divisor):
        return None
    terms = tuple([(number, name) for number, name in parts if name is not None])
    constant = sum([number for number, name in parts if name is None])
    return ("sum", constant, terms, int(divisor))


def parse_sum(text, names):
    """Return the sum over the names that has the text, or None."""
    found = read_sum(text)
    # Reading is lenient: 1 + x, x + 0 and 2 * x / 2 end here.
    if not is_sum(found, names) or format_sum(found) != text:
        return None
    return found


def parse_expression(text, names):
    """Return the expression over the names that has the text, or None."""
    if text == "read":
        return ("read",)
    word, _, rest = text.partition("(")
    if word not in PAIRS:
        return parse_sum(text, names)
    one, _, other = rest.removesuffix(")").partition(", ")
    pair = (parse_sum(one, names), parse_sum(other, names))
    if None in pair or not rest.endswith(")"):
        return None
    return (word, *pair)
