"""Programs with other names, and the texts of machines."""

from frugaltape.errors import InvalidNames
from frugaltape.expressions import are_names
from frugaltape.programs import Program


def is_renaming(candidate, names):
    """Tell whether any object is a dict from exactly these names to different names."""
    if not isinstance(candidate, dict) or len(candidate) != len(names):
        return False
    return all([name in candidate for name in names]) and are_names(tuple([candidate[name] for name in names]))


def renamed_sum(value, names):
    """Return the renamed sum."""
    _, constant, terms, divisor = value
    named = sorted([(names[name], factor) for factor, name in terms])
    return ("sum", constant, tuple([(factor, name) for name, factor in named]), divisor)


def renamed_expression(expression, names):
    """Return the renamed expression."""
    if expression[0] == "sum":
        return renamed_sum(expression, names)
    word, *sums = expression
    return (word, *[renamed_sum(value, names) for value in sums])


def renamed_statement(statement, names):
    """Return the renamed statement."""
    word, *parts = statement
    if word == "call":
        return statement
    if word == "set":
        return (word, names[parts[0]], renamed_expression(parts[1], names))
    if word == "swap":
        return (word, names[parts[0]], names[parts[1]])
    return (word, renamed_expression(parts[0], names), *[renamed_block(block, names) for block in parts[1:]])


def renamed_block(block, names):
    """Return the renamed block."""
    return tuple([renamed_statement(statement, names) for statement in block])


def renamed(program, names):
    """Return the program with its variables renamed by a dict from the old names to the new ones."""
    if not is_renaming(names, program.names):
        raise InvalidNames(names)
    given = tuple([names[name] for name in program.given])
    variables = tuple([names[name] for name in program.variables])
    procedures = tuple([(name, renamed_block(block, names)) for name, block in program.procedures])
    return Program(given, variables, procedures, renamed_block(program.main, names))


def format_machine(machine):
    """Return a line that tells where a machine is."""
    words = [f"step {machine.now} at {machine.here}"]
    words.extend([f"{name}={machine[name]}" for name in machine.program.names])
    words.append(f"tape {len(machine.tape)} of {machine.full_length}")
    if machine.is_done:
        words.append("done")
    return " ".join(words)
