"""How a debugger moves a machine: step by step, until something stops it."""

from frugaltape.errors import RunError
from frugaltape.instructions import expression_names
from frugaltape.questions import is_true


class Walker:
    """A machine, with the breakpoints and the watch that stop it, and the quiet loops of its program."""

    def __init__(self, machine, loops, points, watched):
        self._machine = machine
        self._loops = loops
        self._points = points
        self._watched = watched

    def _stop(self):
        """Return what stops the machine where it is, or None."""
        machine = self._machine
        if machine.here in self._points:
            return ("break", machine.here)
        if self._watched is not None and is_true(machine, self._watched):
            return ("watch", machine.now)
        return None

    def _is_free_way(self, loop):
        """Tell whether no round of the quiet loop, at whose turn the machine is, can stop it."""
        turn = self._machine.here
        behind = self._machine.program.code[turn][1]
        if any([turn <= point < behind for point in self._points]):
            return False
        if self._watched is None:
            return True
        written = [name for name in expression_names(self._watched) if loop.is_writing(name)]
        return not written and self._stop() is None

    def _stride(self, is_forward, most):
        """Return how many steps to make at once: one, or those of all rounds of a quiet loop that cannot stop it."""
        loop = self._loops.get(self._machine.here)
        if loop is None or not self._is_free_way(loop):
            return 1
        rounds, done = self._machine.stack[-1]
        whole = min(rounds - done if is_forward else done, most // loop.round_steps)
        return max(whole * loop.round_steps, 1)

    def _can_step(self):
        """Tell whether the next step forward can be performed."""
        try:
            self._machine.forward()
        except RunError:
            return False
        self._machine.back()
        return True

    def resume(self, limit):
        """Go forward, and return what stopped the machine."""
        machine = self._machine
        goal = machine.now + limit
        found = None
        while found is None:
            if machine.is_done:
                return ("end", machine.now)
            if machine.now == goal:
                return ("limit", goal) if self._can_step() else ("error", machine.here)
            try:
                machine.forward(self._stride(True, goal - machine.now))
            except RunError:
                return ("error", machine.here)
            found = self._stop()
        return found

    def reverse(self, limit):
        """Go back, and return what stopped the machine."""
        machine = self._machine
        goal = machine.now - limit
        found = None
        while found is None:
            if machine.now == 0:
                return ("start", 0)
            if machine.now == goal:
                return ("limit", goal)
            machine.back(self._stride(False, machine.now - goal))
            found = self._stop()
        return found
