"""Free runs with given choices."""

from frugaltape.checks import check_count, check_program, check_values, first_wrong
from frugaltape.errors import InvalidChoices
from frugaltape.linear import divided
from frugaltape.moves import Moves


def check_choices(candidate):
    """Raise an error unless the object is a list or tuple of integers."""
    if not isinstance(candidate, (list, tuple)):
        raise InvalidChoices(None)
    position = first_wrong(candidate)
    if position is not None:
        raise InvalidChoices(position)


class FreeRun:
    """A free run: its address, the vector of its state, its stack and the number of choices taken."""

    def __init__(self, program, start, choices):
        self.moves = Moves(program)
        self.address = 0
        self.vector = tuple([start.get(name, 0) for name in program.names] + [1])
        self.frames = []
        self.used = 0
        self._choices = choices

    def perform(self):
        """Perform the next step."""
        instruction = self.moves.instructions[self.address]
        word = instruction[0]
        if word == "stop":
            raise InvalidChoices(self.used)
        if word == "call":
            self.frames.append(self.address + 1)
            self.address = self.moves.entries[instruction[1]]
        elif word == "return":
            self.address = self.frames.pop()
        else:
            self._move(instruction, self._next_choice(word))

    def _next_choice(self, word):
        if self.moves.choices(self.address) == (None,):
            return None
        if self.used == len(self._choices):
            raise InvalidChoices(self.used)
        choice = self._choices[self.used]
        if word in ("test", "turn") and choice not in (0, 1):
            raise InvalidChoices(self.used)
        self.used += 1
        return choice

    def _move(self, instruction, choice):
        word = instruction[0]
        if word == "begin":
            (entry,), divisor = self.moves.value_entries(instruction[1], self.vector, 1, choice)
            self.frames.append(divided((entry, divisor * self.vector[-1])))
        elif word == "turn" and choice == 0:
            self.frames.pop()
        else:
            self.vector = divided(self.moves.result(self.address, self.vector, 1, choice))
        self.address = self.moves.target(self.address, choice)


def free_run(program, start, choices, steps):
    """Perform so many steps of the free run with the choices; return where it is, its vector and its stack."""
    check_program(program)
    check_values(start, program.given)
    check_choices(choices)
    check_count(steps)
    run = FreeRun(program, start, choices)
    for _ in range(steps):
        run.perform()
    return run.address, run.vector, tuple(run.frames), run.used
