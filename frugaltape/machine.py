"""Machines: runs that go both ways."""

from frugaltape.checks import check_count, check_inputs, check_program, check_values
from frugaltape.errors import (
    AtEnd, AtStart, Busy, InvalidValue, RunError, StepLimit, Unfitting, UnknownName,
)
from frugaltape.guides import Guide
from frugaltape.integers import is_integer
from frugaltape.linear import dot
from frugaltape.runs import Run


def started_run(program, values, inputs):
    """Return a run at its start."""
    check_program(program)
    check_values(values, program.given)
    check_inputs(inputs)
    return Run(Guide(program), values, inputs)


class Machine:
    """A run of a program that can be moved to any step."""

    def __init__(self, program, values, inputs=()):
        # A copy is made from a run, so that the program is not analysed again.
        self._run = program.twin() if isinstance(program, Run) else started_run(program, values, inputs)

    @property
    def program(self):
        """The program."""
        return self._run.guide.source

    @property
    def here(self):
        """The address."""
        return self._run.address

    @property
    def now(self):
        """The step number."""
        return self._run.steps

    @property
    def state(self):
        """The values of all variables, a dict."""
        return dict(self._run.amounts)

    @property
    def stack(self):
        """The stack: return addresses and counters."""
        return tuple(self._run.frames)

    @property
    def tape(self):
        """The entries of the tape, the oldest one first."""
        return tuple(self._run.records)

    @property
    def inputs(self):
        """All inputs."""
        return self._run.supply

    @property
    def read_count(self):
        """The number of inputs that were read."""
        return self._run.supplied

    @property
    def outputs(self):
        """The outputs so far."""
        return tuple(self._run.printed)

    @property
    def is_done(self):
        """Whether the run is at its end."""
        return self._run.has_ended()

    @property
    def full_length(self):
        """The length that the tape would have if all that is destroyed had been recorded."""
        return self._run.full_count

    @property
    def edits(self):
        """The edits that were not gone back over: step, name, old and new value of each."""
        return tuple(self._run.changes)

    def __getitem__(self, at):
        if not isinstance(at, str) or at not in self._run.amounts:
            raise UnknownName(at)
        return self._run.amounts[at]

    def __iter__(self):
        raise TypeError("a machine is not iterated over")

    def __eq__(self, other):
        return (
            isinstance(other, Machine)
            and self.program == other.program
            and self._run.facts() == other._run.facts()
        )

    def copy(self):
        """Return an equal, independent machine."""
        return Machine(self._run, {})

    def _advance_to(self, goal):
        """Go forward to a step or to the end; a step that cannot be performed changes nothing."""
        start = self.now
        try:
            self._run.advance_to(goal)
        except RunError:
            self._run.retreat_to(start)
            raise

    def forward(self, count=1):
        """Go so many steps forward."""
        check_count(count)
        start = self.now
        self._advance_to(start + count)
        end = self.now
        if end < start + count:
            self._run.retreat_to(start)
            raise AtEnd(end)

    def back(self, count=1):
        """Go so many steps back."""
        check_count(count)
        if count > self.now:
            raise AtStart()
        self._run.retreat_to(self.now - count)

    def go(self, step):
        """Go to a step number."""
        check_count(step)
        if step < self.now:
            self._run.retreat_to(step)
        else:
            self.forward(step - self.now)

    def finish(self, limit=10000):
        """Go to the end of the run, which is at most `limit` steps away."""
        check_count(limit)
        start = self.now
        self._advance_to(start + limit)
        if not self.is_done:
            self._run.retreat_to(start)
            raise StepLimit(limit)

    def __irshift__(self, other):
        self.forward(other)
        return self

    def __ilshift__(self, other):
        self.back(other)
        return self

    def edit(self, name, value):
        """Give a variable a new value, as a step, where the stack is empty and the new state fits."""
        run = self._run
        if not isinstance(name, str) or name not in run.amounts:
            raise UnknownName(name)
        if not is_integer(value):
            raise InvalidValue(value)
        if run.frames:
            raise Busy(len(run.frames))
        changed = [value if one == name else run.amounts[one] for one in self.program.names]
        for equation in run.guide.analysis.equations(run.address):
            if dot(equation, [*changed, 1]) != 0:
                raise Unfitting(equation)
        run.edit(name, value)


def given_values(machine):
    """Return the dict of the given values with which the run of a machine began."""
    start = machine.copy()
    start.go(0)
    return {name: start[name] for name in machine.program.given}
