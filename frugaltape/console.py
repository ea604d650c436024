"""Consoles: lines of text that move a machine and tell about it."""

from frugaltape.commands import read_command, read_machine
from frugaltape.errors import InvalidLine, NoMachine


class Console:
    """A machine, if one was loaded."""

    def __init__(self):
        self._machine = None

    def run(self, line):
        """Perform a line and return a text."""
        if not isinstance(line, str) or "\n" in line:
            raise InvalidLine()
        if line.startswith("load "):
            self._machine = read_machine(line.removeprefix("load "))
            return "ok"
        action, arguments = read_command(line)
        if self._machine is None:
            raise NoMachine()
        return action(self._machine, *arguments)
