"""Statements by their addresses, and programs in which one of them is changed.

A path is a list of positions that leads through tuples in tuples: to a statement of a block, to a block of
this statement, and so on.
"""

from frugaltape.checks import check_address, check_program
from frugaltape.coding import block_code, statement_code
from frugaltape.errors import InvalidAddress
from frugaltape.programs import Program


def inner_blocks(statement, start):
    """Return a list of the blocks of a statement whose code begins at an address: positions and addresses."""
    word = statement[0]
    if word == "if":
        return [(2, start + 1), (3, start + 2 + len(block_code(statement[2], 0)))]
    return [(2, start + 2)] if word in ("while", "repeat") else []


def path_in_block(block, start, address):
    """Return the path from a block, whose code begins at an address, to the statement with an instruction."""
    at = 0
    behind = start + len(statement_code(block[0], 0))
    while behind <= address:
        at += 1
        start = behind
        behind += len(statement_code(block[at], 0))
    for place, inner in inner_blocks(block[at], start):
        if inner <= address < inner + len(block_code(block[at][place], 0)):
            return [at, place, *path_in_block(block[at][place], inner, address)]
    return [at]


def path_in_program(program, address):
    """Return the path from the pair of the procedures and the main block of a program to a statement."""
    if address < program.code.index(("stop",)):
        return [1, *path_in_block(program.main, 0, address)]
    last = len([name for name, _ in program.procedures if program.entry(name) <= address]) - 1
    name, block = program.procedures[last]
    return [0, last, 1, *path_in_block(block, program.entry(name), address)]


def item_at(row, path):
    """Return what a path leads to."""
    found = row
    for at in path:
        found = found[at]
    return found


def with_item(row, path, item):
    """Return a tuple with something else where a path leads to."""
    if not path:
        return item
    at, *rest = path
    return (*row[:at], with_item(row[at], rest, item), *row[at + 1:])


class Site:
    """A statement of a program, found by the address of one of its own instructions, with the block around it."""

    def __init__(self, program, address, word):
        """Look for the instruction with a word at an address; raise an error for any other objects."""
        check_program(program)
        check_address(address, program.code)
        if program.code[address][0] != word:
            raise InvalidAddress(address)
        self._program = program
        self._parts = (program.procedures, program.main)
        *path, position = path_in_program(program, address)
        self._path = path
        self.position = position
        self.block = item_at(self._parts, path)

    def replaced(self, first, behind, statements):
        """Return the program where other statements stand in place of those from a position up to another one."""
        block = (*self.block[:first], *statements, *self.block[behind:])
        procedures, main = with_item(self._parts, self._path, block)
        return Program(self._program.given, self._program.variables, procedures, main)
