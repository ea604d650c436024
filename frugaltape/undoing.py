"""Steps back: what each instruction changed, beside the address, is changed back.

Each function is handed a run that is behind a step, and the address of the instruction of that step.
"""


def undo_set(run, address):
    """Undo a `set`."""
    run.amounts[run.instructions[address][1]] = run.take_back(address)


def undo_swap(run, address):
    """Undo a `swap`."""
    _, one, other = run.instructions[address]
    run.amounts[one], run.amounts[other] = run.amounts[other], run.amounts[one]


def undo_print(run, _):
    """Undo a `print`."""
    run.printed.pop()


def undo_nothing(_run, _address):
    """Undo a `test` or an `again`, which only lead to an address."""


def undo_go(run, address):
    """Undo a `go`."""
    run.take_back(address)


def undo_begin(run, _):
    """Undo a `begin`."""
    run.frames.pop()


def undo_turn(run, address):
    """Undo a `turn`."""
    if run.address == address + 1:
        rounds, done = run.frames.pop()
        run.frames.append((rounds, done - 1))
    else:
        rounds = run.take_back(address)
        run.frames.append((rounds, max(rounds, 0)))


def undo_call(run, _):
    """Undo a `call`."""
    run.frames.pop()


def undo_return(run, _):
    """Undo a `return`."""
    run.frames.append(run.address)


UNDOING = {
    "set": undo_set,
    "swap": undo_swap,
    "print": undo_print,
    "test": undo_nothing,
    "go": undo_go,
    "again": undo_nothing,
    "begin": undo_begin,
    "turn": undo_turn,
    "call": undo_call,
    "return": undo_return,
}
