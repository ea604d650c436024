"""Statements, blocks and procedures: which objects are some."""

from frugaltape.expressions import are_names, is_expression

MAX_DEPTH = 8
MAX_PROCEDURES = 6
# The words of the statements that contain blocks.
COMPOUND = ("if", "while", "repeat")


def is_block(candidate, names, procedures, depth=1):
    """Tell whether any object is a block, at a depth, over the names of variables and of procedures."""
    if not isinstance(candidate, tuple) or depth > MAX_DEPTH:
        return False
    return all([is_statement(statement, names, procedures, depth) for statement in candidate])


def is_statement(candidate, names, procedures, depth):
    """Tell whether any object is a statement of a block at a depth."""
    if not isinstance(candidate, tuple) or not candidate:
        return False
    word = candidate[0]
    if word in COMPOUND:
        return is_compound(candidate, names, procedures, depth)
    if word in ("set", "swap"):
        return is_writing(candidate, names)
    if len(candidate) != 2:
        return False
    if word == "print":
        return is_expression(candidate[1], names)
    return word == "call" and candidate[1] in procedures


def is_writing(candidate, names):
    """Tell whether a tuple that begins with `set` or `swap` is such a statement."""
    if len(candidate) != 3 or candidate[1] not in names:
        return False
    word, name, other = candidate
    if word == "set":
        return is_expression(other, names)
    return other in names and other != name


def is_compound(candidate, names, procedures, depth):
    """Tell whether a tuple that begins with a word of COMPOUND is such a statement."""
    word, *parts = candidate
    if len(parts) != (3 if word == "if" else 2) or not is_expression(parts[0], names):
        return False
    return all([is_block(part, names, procedures, depth + 1) for part in parts[1:]])


def are_procedures(candidate, names):
    """Tell whether any object is a tuple of procedures over the names of variables."""
    if not isinstance(candidate, tuple) or len(candidate) > MAX_PROCEDURES:
        return False
    if not all([isinstance(procedure, tuple) and len(procedure) == 2 for procedure in candidate]):
        return False
    called = tuple([name for name, _ in candidate])
    return are_names(called) and all([is_block(block, names, called) for _, block in candidate])
