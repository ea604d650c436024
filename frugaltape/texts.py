"""The texts of programs."""

from frugaltape.blocks import COMPOUND, MAX_DEPTH, is_statement
from frugaltape.errors import InvalidProgram, ParseError
from frugaltape.expressions import are_names, is_name
from frugaltape.phrases import format_expression, parse_expression
from frugaltape.programs import Program

INDENT = "  "


def statement_lines(statement, depth):
    """Return the list of the lines of a statement in a block at a depth."""
    indent = INDENT * depth
    word = statement[0]
    if word == "set":
        return [f"{indent}set {statement[1]} = {format_expression(statement[2])}"]
    if word == "swap":
        return [f"{indent}swap {statement[1]} {statement[2]}"]
    if word == "call":
        return [f"{indent}call {statement[1]}"]
    lines = [f"{indent}{word} {format_expression(statement[1])}"]
    if word == "print":
        return lines
    lines.extend(block_lines(statement[2], depth + 1))
    if word == "if" and statement[3]:
        lines.append(f"{indent}else")
        lines.extend(block_lines(statement[3], depth + 1))
    return [*lines, f"{indent}end"]


def block_lines(block, depth):
    """Return the list of the lines of a block at a depth."""
    lines = []
    for statement in block:
        lines.extend(statement_lines(statement, depth))
    return lines


def format_program(program):
    """Return the text of a program."""
    lines = []
    if program.given:
        lines.append(" ".join(["given", *program.given]))
    if program.variables:
        lines.append(" ".join(["var", *program.variables]))
    for name, block in program.procedures:
        lines.extend([f"proc {name}", *block_lines(block, 1), "end"])
    return "\n".join([*lines, "main", *block_lines(program.main, 1), "end"])


# The functions below take the lines of a text and the position of the line to go on with, and return
# what they read and the position of the line behind it.


def skip(lines, at, line):
    """Return the position behind a line that must be as given."""
    if at == len(lines) or lines[at] != line:
        raise ParseError(at)
    return at + 1


def parse_names(lines, at, word):
    """Read the names of a line that begins with the word, if there is such a line."""
    if at == len(lines) or not lines[at].startswith(f"{word} "):
        return (), at
    _, *found = lines[at].split(" ")
    names = tuple(found)
    if not are_names(names):
        raise ParseError(at)
    return names, at + 1


def parse_procedures(lines, at, names):
    """Read all procedures."""
    procedures = []
    while at < len(lines) and lines[at].startswith("proc "):
        name = lines[at].removeprefix("proc ")
        if not is_name(name):
            raise ParseError(at)
        block, at = parse_block(lines, at + 1, 1, names)
        at = skip(lines, at, "end")
        procedures.append((name, block))
    return tuple(procedures), at


def parse_block(lines, at, depth, names):
    """Read a block at a depth, which ends at the first line that is indented less."""
    if depth > MAX_DEPTH:
        raise ParseError(at)
    statements = []
    while at < len(lines) and lines[at].startswith(INDENT * depth):
        statement, at = parse_statement(lines, at, depth, names)
        statements.append(statement)
    return tuple(statements), at


def parse_statement(lines, at, depth, names):
    """Read a statement of a block at a depth."""
    word, _, rest = lines[at].removeprefix(INDENT * depth).partition(" ")
    if word in COMPOUND:
        expression = parse_expression(rest, names)
        if expression is None:
            raise ParseError(at)
        blocks, at = parse_blocks(lines, at + 1, depth, names, word == "if")
        return (word, expression, *blocks), at
    statement = read_statement(word, rest, names)
    # Procedures may be called before their lines are read: Program looks whether they exist.
    called = (rest,) if is_name(rest) else ()
    if not is_statement(statement, names, called, depth):
        raise ParseError(at)
    return statement, at + 1


def read_statement(word, rest, names):
    """Return something that is the statement of a line, if the line is a statement without blocks."""
    if word == "set":
        name, _, text = rest.partition(" = ")
        return ("set", name, parse_expression(text, names))
    if word == "swap":
        one, _, other = rest.partition(" ")
        return ("swap", one, other)
    if word == "print":
        return ("print", parse_expression(rest, names))
    return (word, rest)


def parse_blocks(lines, at, depth, names, is_double):
    """Read the block or the two blocks of a statement at a depth, with the line `end` behind them."""
    indent = INDENT * depth
    first, at = parse_block(lines, at, depth + 1, names)
    second = ()
    if is_double and at < len(lines) and lines[at] == f"{indent}else":
        second, at = parse_block(lines, at + 1, depth + 1, names)
        if not second:
            raise ParseError(at)
    at = skip(lines, at, f"{indent}end")
    return ((first, second) if is_double else (first,)), at


def parse_program(text):
    """Return the program of which this is the text."""
    if not isinstance(text, str):
        raise ParseError(None)
    lines = text.split("\n")
    given, at = parse_names(lines, 0, "given")
    variables, at = parse_names(lines, at, "var")
    procedures, at = parse_procedures(lines, at, given + variables)
    main, at = parse_block(lines, skip(lines, at, "main"), 1, given + variables)
    at = skip(lines, at, "end")
    if at < len(lines):
        raise ParseError(at)
    try:
        return Program(given, variables, procedures, main)
    except InvalidProgram:
        raise ParseError(len(lines)) from None
