"""Questions about the past of a machine; they are answered by going back on a copy of it."""

from frugaltape.checks import check_count, check_past_step
from frugaltape.errors import InvalidExpression, RunError, UnknownName
from frugaltape.evaluating import expression_value
from frugaltape.expressions import is_expression
from frugaltape.instructions import expression_names, written_names
from frugaltape.moves import Moves
from frugaltape.quiet import quiet_loops


class Past:
    """A copy of a machine that goes back."""

    def __init__(self, machine):
        self.machine = machine.copy()
        self._loops = quiet_loops(Moves(machine.program))
        self._edited = {step: True for step, _, _, _ in machine.edits}

    def go_back(self, names, lowest):
        """Go a step back, or over all rounds of a quiet loop that write none of these variables, to a step at least."""
        machine = self.machine
        loop = self._loops.get(machine.here)
        rounds = 0
        if loop is not None and not any([loop.is_writing(name) for name in names]):
            _, done = machine.stack[-1]
            rounds = min(done, (machine.now - lowest) // loop.round_steps)
        machine.back(rounds * loop.round_steps if rounds > 0 else 1)

    def go_before_write(self, name, lowest):
        """Go to the last write of a variable, at least at a step; return its step and address, or None."""
        while self.machine.now > lowest:
            self.go_back((name,), lowest)
            here = self.machine.here
            written = written_names(self.machine.program.code[here])
            if name in written and self.machine.now not in self._edited:
                return self.machine.now, here
        return None


def check_name(machine, name):
    """Raise an error unless the object is the name of a variable of the machine."""
    if not isinstance(name, str) or name not in machine.program.names:
        raise UnknownName(name)


def last_write(machine, name):
    """Return the step and the address of the last write of a variable, or None."""
    check_name(machine, name)
    return Past(machine).go_before_write(name, 0)


def writes(machine, name, limit=10000):
    """Yield the steps and the addresses of the writes of a variable, from the last one on, in the last steps."""
    check_name(machine, name)
    check_count(limit)
    past = Past(machine)
    lowest = max(machine.now - limit, 0)
    found = past.go_before_write(name, lowest)
    while found is not None:
        yield found
        found = past.go_before_write(name, lowest)


def is_true(machine, expression):
    """Tell whether an expression has a value other than 0 in the configuration of a machine."""
    if expression[0] == "read":
        return False
    try:
        return expression_value(expression, machine.state, (), 0, machine.here) != 0
    except RunError:
        return False


def last_true(machine, expression, limit=10000):
    """Return the greatest step number, of the last steps, at which an expression was true, or None."""
    if not is_expression(expression, machine.program.names):
        raise InvalidExpression(expression)
    check_count(limit)
    past = Past(machine)
    names = expression_names(expression)
    lowest = max(machine.now - limit, 0)
    while not is_true(past.machine, expression):
        if past.machine.now == lowest:
            return None
        past.go_back(names, lowest)
    return past.machine.now


def outputs_at(machine, step):
    """Return the tuple of the outputs at an earlier step."""
    check_past_step(step, machine)
    past = machine.copy()
    past.go(step)
    return past.outputs
