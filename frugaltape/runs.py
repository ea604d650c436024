"""Runs with a tape, forward and back."""

from frugaltape.configurations import Configuration
from frugaltape.deciding import RECORD
from frugaltape.evaluating import sum_value
from frugaltape.instructions import expression_of
from frugaltape.undoing import UNDOING


class Run(Configuration):
    """A configuration of a run with its tape, its step number and its edits, where a guide knows the program."""

    def __init__(self, guide, values, inputs):
        super().__init__(guide.source, guide.loops, values, inputs)
        self.guide = guide
        self.records = []
        self.steps = 0
        self.full_count = 0
        self.changes = []

    def facts(self):
        """Return a tuple of all by which runs of one program may differ."""
        return (
            self.address, self.amounts, self.frames, self.supply, self.supplied, self.printed,
            self.records, self.steps, self.changes,
        )

    def twin(self):
        """Return an equal, independent run."""
        twin = Run(self.guide, self.amounts, self.supply)
        twin.address = self.address
        twin.frames = list(self.frames)
        twin.supplied = self.supplied
        twin.printed = list(self.printed)
        twin.records = list(self.records)
        twin.steps = self.steps
        twin.full_count = self.full_count
        twin.changes = list(self.changes)
        return twin

    def leap_forward(self, most):
        """Make all rounds of a quiet loop at once that there are in `most` steps; tell whether there are some."""
        count = self.rounds_ahead(most)
        if count > 0:
            self._count_rounds(count)
        return count > 0

    def leap_back(self, most):
        """Undo all rounds of a quiet loop at once that there are in `most` steps; tell whether there are some."""
        if self.address not in self.loops:
            return False
        _, done = self.frames[-1]
        count = min(done, most // self.loops[self.address].round_steps)
        if count > 0:
            self._count_rounds(-count)
        return count > 0

    def _count_rounds(self, count):
        self.full_count += count * self.loops[self.address].round_sets
        self.steps += self.leap(count)

    def step_forward(self):
        """Make a step forward; an error changes nothing."""
        address = self.address
        lost = self.perform()
        self.steps += 1
        if lost is not None:
            self.full_count += 1
            if self.guide.decisions[address] == RECORD:
                self.records.append(lost)

    def step_back(self):
        """Undo the last step."""
        if self.is_edited():
            _, name, old, _ = self.changes.pop()
            self.amounts[name] = old
        else:
            self._undo(self._previous())
        self.steps -= 1

    def advance_to(self, goal):
        """Go forward to a step number, or to the end of the run if it comes first."""
        while self.steps < goal and not self.has_ended():
            if not self.leap_forward(goal - self.steps):
                self.step_forward()

    def retreat_to(self, goal):
        """Go back to a step number."""
        while self.steps > goal:
            if not self.leap_back(self.steps - goal):
                self.step_back()

    def is_edited(self):
        """Tell whether the last step was an edit."""
        return len(self.changes) > 0 and self.changes[-1][0] == self.steps - 1

    def edit(self, name, value):
        """Give a variable a new value."""
        self.changes.append((self.steps, name, self.amounts[name], value))
        self.amounts[name] = value
        self.steps += 1

    def _previous(self):
        """Return the address of the instruction of the last step, which was no edit."""
        before = self.guide.before[self.address]
        if not before:
            # Only a call leads to the entry of a procedure.
            return self.frames[-1] - 1
        if len(before) == 1:
            return before[0]
        if self.instructions[self.address][0] == "turn":
            return before[0] if self.frames[-1][1] == 0 else before[1]
        way = self._lost(before[0])
        return before[0] if self.instructions[before[0]][2] == way else before[1]

    def _lost(self, address):
        """Return what the last step, whose instruction is at the address, destroyed."""
        word, *told = self.guide.decisions[address]
        if word == "record":
            return self.records[-1]
        return told[0] if word == "only" else sum_value(told[0], self.amounts, address)

    def take_back(self, address):
        """Return what the last step, whose instruction is at the address, destroyed, and shorten the tape."""
        lost = self._lost(address)
        self.full_count -= 1
        if self.guide.decisions[address] == RECORD:
            self.records.pop()
        return lost

    def _undo(self, address):
        instruction = self.instructions[address]
        action = UNDOING[instruction[0]]
        action(self, address)
        if expression_of(instruction) == ("read",):
            self.supplied -= 1
        self.address = address
