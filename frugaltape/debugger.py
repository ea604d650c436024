"""Debuggers: machines with breakpoints, a watch and commands that can be undone."""

from frugaltape.checks import check_address, check_count
from frugaltape.errors import InvalidExpression, NothingToUndo, UnknownBreakpoint
from frugaltape.expressions import is_expression
from frugaltape.moves import Moves
from frugaltape.quiet import quiet_loops
from frugaltape.walking import Walker


class Debugger:
    """A copy of a machine, a set of breakpoints, a watch, and what they were before each command."""

    def __init__(self, machine):
        # A command moves a copy, so that the machines of earlier commands stay as they were.
        self._machine = machine.copy()
        self._loops = quiet_loops(Moves(machine.program))
        self._points = ()
        self._watched = None
        self._past = []

    def __len__(self):
        return len(self._past)

    @property
    def breakpoints(self):
        """The ascending tuple of the breakpoints."""
        return self._points

    def snapshot(self):
        """Return a copy of the machine."""
        return self._machine.copy()

    def _remember(self):
        """Keep what a command is about to change."""
        self._past.append((self._machine, self._points, self._watched))

    def stop_at(self, address):
        """Add a breakpoint."""
        check_address(address, self._machine.program.code)
        self._remember()
        self._points = tuple(sorted(set([*self._points, address])))

    def forget(self, address):
        """Remove a breakpoint."""
        check_address(address, self._machine.program.code)
        if address not in self._points:
            raise UnknownBreakpoint(address)
        self._remember()
        self._points = tuple([point for point in self._points if point != address])

    def watch(self, expression):
        """Set the watch, an expression, or None for none."""
        if expression is not None and not is_expression(expression, self._machine.program.names):
            raise InvalidExpression(expression)
        self._remember()
        self._watched = expression

    def _walker(self):
        """Begin a command that moves the machine by steps."""
        self._remember()
        self._machine = self._machine.copy()
        return Walker(self._machine, self._loops, self._points, self._watched)

    def resume(self, limit=10000):
        """Go forward until something holds, and return what."""
        check_count(limit)
        return self._walker().resume(limit)

    def reverse(self, limit=10000):
        """Go back until something holds, and return what."""
        check_count(limit)
        return self._walker().reverse(limit)

    def jump(self, step):
        """Go to a step number."""
        machine = self._machine.copy()
        machine.go(step)
        self._remember()
        self._machine = machine

    def undo(self):
        """Restore the machine, the breakpoints and the watch from before the last command."""
        if not self._past:
            raise NothingToUndo()
        self._machine, self._points, self._watched = self._past.pop()

    def attempt(self, visitor):
        """Call a function with this debugger and return its result; afterwards all is as before."""
        machine, points, watched = self._machine, self._points, self._watched
        past = list(self._past)
        try:
            return visitor(self)
        finally:
            self._machine, self._points, self._watched, self._past = machine, points, watched, past
