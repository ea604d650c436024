"""Programs."""

from frugaltape.blocks import are_procedures, is_block
from frugaltape.coding import program_code
from frugaltape.errors import InvalidProgram, UnknownName
from frugaltape.expressions import are_names

MAX_NAMES = 4
MAX_CODE = 120
MAX_CALLS = 8


def check_names(given, variables):
    """Raise an error unless these are the names of a program."""
    if not are_names(given):
        raise InvalidProgram("given")
    if not isinstance(variables, tuple) or not are_names(given + variables):
        raise InvalidProgram("variables")
    if not 1 <= len(given) + len(variables) <= MAX_NAMES:
        raise InvalidProgram("variables")


def check_blocks(names, procedures, main):
    """Raise an error unless these are the procedures and the main block of a program with the names."""
    if not are_procedures(procedures, names):
        raise InvalidProgram("procedures")
    if not is_block(main, names, [name for name, _ in procedures]):
        raise InvalidProgram("main")


def check_size(code):
    """Raise an error if the code is too long or has too many calls."""
    calls = [instruction for instruction in code if instruction[0] == "call"]
    if len(code) > MAX_CODE or len(calls) > MAX_CALLS:
        raise InvalidProgram("size")


class Program:
    """A program and its code; it never changes."""

    def __init__(self, given, variables, procedures, main):
        check_names(given, variables)
        check_blocks(given + variables, procedures, main)
        self._code, self._entries = program_code(procedures, main)
        check_size(self._code)
        self._given = given
        self._variables = variables
        self._procedures = procedures
        self._main = main

    @property
    def given(self):
        """The names of the given variables."""
        return self._given

    @property
    def variables(self):
        """The names of the other variables."""
        return self._variables

    @property
    def procedures(self):
        """The procedures, each with its name and its block."""
        return self._procedures

    @property
    def main(self):
        """The main block."""
        return self._main

    @property
    def names(self):
        """The names of all variables, the given ones first."""
        return self._given + self._variables

    @property
    def code(self):
        """The instructions; their positions are the addresses."""
        return self._code

    def entry(self, name):
        """Return the address where the code of a procedure begins."""
        if not isinstance(name, str) or name not in self._entries:
            raise UnknownName(name)
        return self._entries[name]

    def __eq__(self, other):
        return (
            isinstance(other, Program)
            and self._given == other._given
            and self._variables == other._variables
            and self._procedures == other._procedures
            and self._main == other._main
        )
