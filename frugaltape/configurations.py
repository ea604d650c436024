"""Configurations of a run and the steps that lead forward from them."""

from frugaltape.errors import TooDeep
from frugaltape.evaluating import expression_value
from frugaltape.instructions import expression_of

MAX_STACK = 400


class Configuration:
    """Where a run is: its address, the values of all variables, the stack, what was read and the outputs."""

    def __init__(self, program, loops, values, inputs):
        # The quiet loops, by the addresses of their `turn` instructions.
        self.loops = loops
        self.instructions = program.code
        self.entries = {name: program.entry(name) for name, _ in program.procedures}
        self.address = 0
        self.amounts = {name: values.get(name, 0) for name in program.names}
        self.frames = []
        self.supply = tuple(inputs)
        self.supplied = 0
        self.printed = []

    def has_ended(self):
        """Tell whether there is no further step."""
        return self.instructions[self.address][0] == "stop"

    def perform(self):
        """Perform the next step and return what it destroyed, or None; an error changes nothing."""
        instruction = self.instructions[self.address]
        action = ACTIONS[instruction[0]]
        return action(self, instruction)

    def rounds_ahead(self, most):
        """Return how many rounds of a quiet loop begin here and can be made at once in `most` steps."""
        if self.address not in self.loops:
            return 0
        rounds, done = self.frames[-1]
        return max(0, min(rounds - done, most // self.loops[self.address].round_steps))

    def leap(self, count):
        """Make so many rounds of the quiet loop here, backwards for a negative number; return how many steps."""
        loop = self.loops[self.address]
        rounds, done = self.frames[-1]
        self.frames[-1] = (rounds, done + count)
        self.amounts = loop.after(self.amounts, count)
        return count * loop.round_steps

    def computed(self, instruction):
        """Return the value of the expression of the next instruction."""
        return expression_value(expression_of(instruction), self.amounts, self.supply, self.supplied, self.address)

    def put(self, item):
        """Put something on the stack, if there is room."""
        if len(self.frames) >= MAX_STACK:
            raise TooDeep(self.address)
        self.frames.append(item)

    def move_on(self, instruction):
        """Go to the next address, behind an instruction that was performed and that may have read an input."""
        if expression_of(instruction) == ("read",):
            self.supplied += 1
        self.address += 1


def perform_set(run, instruction):
    """Perform a `set` and return the old value."""
    name = instruction[1]
    value = run.computed(instruction)
    old = run.amounts[name]
    run.amounts[name] = value
    run.move_on(instruction)
    return old


def perform_swap(run, instruction):
    """Perform a `swap`."""
    _, one, other = instruction
    run.amounts[one], run.amounts[other] = run.amounts[other], run.amounts[one]
    run.move_on(instruction)


def perform_print(run, instruction):
    """Perform a `print`."""
    run.printed.append(run.computed(instruction))
    run.move_on(instruction)


def perform_test(run, instruction):
    """Perform a `test`."""
    value = run.computed(instruction)
    run.move_on(instruction)
    if value == 0:
        run.address = instruction[2]


def perform_go(run, instruction):
    """Perform a `go` and return its way."""
    _, run.address, way = instruction
    return way


def perform_again(run, instruction):
    """Perform an `again`."""
    run.address = instruction[1]


def perform_begin(run, instruction):
    """Perform a `begin`."""
    run.put((run.computed(instruction), 0))
    run.move_on(instruction)


def perform_turn(run, instruction):
    """Perform a `turn` and return the rounds of the counter if it was removed."""
    rounds, done = run.frames.pop()
    if done < rounds:
        run.frames.append((rounds, done + 1))
        run.move_on(instruction)
        return None
    run.address = instruction[1]
    return rounds


def perform_call(run, instruction):
    """Perform a `call`."""
    run.put(run.address + 1)
    run.address = run.entries[instruction[1]]


def perform_return(run, _):
    """Perform a `return`."""
    run.address = run.frames.pop()


ACTIONS = {
    "set": perform_set,
    "swap": perform_swap,
    "print": perform_print,
    "test": perform_test,
    "go": perform_go,
    "again": perform_again,
    "begin": perform_begin,
    "turn": perform_turn,
    "call": perform_call,
    "return": perform_return,
}
