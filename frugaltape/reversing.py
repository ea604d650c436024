"""Reversed programs: they lead from the end of a run to its start."""

from frugaltape.analysis import Analysis
from frugaltape.coding import block_code, statement_code
from frugaltape.programs import Program

# Each function below is handed the analysis of the program and the address of what it reverses.


def found_expression(decision):
    """Return the expression that gives back what a decision is about."""
    return ("read",) if decision == ("record",) else decision[1]


def reversed_block(analysis, block, address):
    """Return the reversed block."""
    parts = []
    for statement in block:
        parts.append(reversed_statement(analysis, statement, address))
        address += len(statement_code(statement, address))
    return tuple([statement for part in parts[::-1] for statement in part])


def reversed_statement(analysis, statement, address):
    """Return the tuple of the statements that a statement is reversed to."""
    word = statement[0]
    if word == "print" or len(analysis.space(address)) == 0:
        return ()
    if word in ("swap", "call"):
        return (statement,)
    if word == "set":
        return (("set", statement[1], found_expression(analysis.decision(address))),)
    if word == "if":
        return reversed_if(analysis, statement, address)
    return reversed_loop(analysis, statement, address)


def reversed_if(analysis, statement, address):
    """Return the tuple of the statements that an `if` is reversed to."""
    _, _, first, second = statement
    second_address = address + 2 + len(block_code(first, 0))
    decision = analysis.decision(second_address - 1)
    if decision == ("never",):
        return ()
    ways = (reversed_block(analysis, second, second_address), reversed_block(analysis, first, address + 1))
    if decision[0] == "only":
        return ways[decision[1]]
    return (("if", found_expression(decision), ways[1], ways[0]),)


def reversed_loop(analysis, statement, address):
    """Return the tuple of the statements that a `while` or a `repeat` is reversed to."""
    word, _, block = statement
    decision = analysis.decision(address if word == "while" else address + 1)
    if decision[0] in ("never", "only"):
        return ()
    return ((word, found_expression(decision), reversed_block(analysis, block, address + 2)),)


def reversed_program(program):
    """Return the program that leads from the end of a run, with the tape as inputs, to its start."""
    analysis = Analysis(program)
    procedures = [(name, reversed_block(analysis, block, program.entry(name))) for name, block in program.procedures]
    main = reversed_block(analysis, program.main, 0)
    return Program(program.names, (), tuple(procedures), main)


def reversed_inputs(machine):
    """Return the list of the entries of the tape, from the last one to the first one."""
    return list(machine.tape[::-1])
